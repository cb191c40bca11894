import Derived.Test.YtgkaalonmkcclaaDoorPRbH
import Derived.Test.YtgkaalonmkcclaaDoorEdP
import Derived.Deep.RegionHeld
namespace Go.Proofs.YtgkaalonmkcclaaDoor
open Go.RowKit
set_option maxRecDepth 100000

def wArea : ByteArray := ⟨#[97, 114, 101, 97]⟩
/-- The words of a cell: the area, and the first k variables' values. -/
def ctW (S : List (ByteArray × Int)) (F : List Int) (a : Int) (V : List Int) (k : Nat) : List ByteArray := [wArea, numZ a] ++ (List.range k).map (fun j => naA (tbS S F) j ++ ⟨#[61]⟩ ++ numZ (V.getD j 0))
section
variable {S : List (ByteArray × Int)} {F : List Int} {a : Int} {V : List Int} {k : Nat}
theorem ctW_zero : ctW S F a V 0 = [wArea, numZ a] := by unfold ctW; simp
theorem ctW_len : (ctW S F a V k).length = k + 2 := by unfold ctW; simp
theorem ctW_snoc {nm : ByteArray} {lv v : Int} (h1 : (tbS S F)[k]? = some (nm, lv)) (h2 : V[k]? = some v) : ctW S F a V (k + 1) = ctW S F a V k ++ [nm ++ ⟨#[61]⟩ ++ numZ v] := by
  unfold ctW
  rw [List.range_succ, List.map_append, ← List.append_assoc]
  congr 1
  rw [List.map_cons, List.map_nil, naA_at h1, List.getD_eq_getElem?_getD, h2]
  rfl
theorem ctW_ne : ctW S F a V k ≠ [] := by intro e; have := ctW_len (S := S) (F := F) (a := a) (V := V) (k := k); rw [e] at this; simp at this
theorem jn_zero : jnS 32 (ctW S F a V 0) = ⟨#[97, 114, 101, 97, 32]⟩ ++ numZ a := by
  rw [ctW_zero, show [wArea, numZ a] = [wArea] ++ [numZ a] from rfl, jnS_snoc (by simp), jnS_one, show (⟨#[97, 114, 101, 97, 32]⟩ : ByteArray) = wArea ++ ⟨#[32]⟩ by decide]
theorem jn_next {nm : ByteArray} {lv v : Int} (h1 : (tbS S F)[k]? = some (nm, lv)) (h2 : V[k]? = some v) : jnS 32 (ctW S F a V (k + 1)) = jnS 32 (ctW S F a V k) ++ (((⟨#[32]⟩ ++ nm) ++ ⟨#[61]⟩) ++ numZ v) := by
  rw [ctW_snoc h1 h2, jnS_snoc ctW_ne]
  simp only [ByteArray.append_assoc]
end
/-- A cell's text. -/
def ctX (P : List Int) (S : List (ByteArray × Int)) (l : Int) (F W : List Int) (m i : Int) : ByteArray := jnS 32 (ctW S F (tcaA P S l F W m i) (tcaL P S l F W m i) F.length)
def cxR (P : List Int) (S : List (ByteArray × Int)) (l : Int) (F W : List Int) (m i : Int) : ByteArray := if tcaB P S l F W m i then ctX P S l F W m i else ⟨#[]⟩
section
variable {P : List Int} {S : List (ByteArray × Int)} {l : Int} {F W : List Int} {m i : Int}
theorem cxR_yes (h : tcaB P S l F W m i = true) : cxR P S l F W m i = ctX P S l F W m i := by unfold cxR; rw [h]; rfl
theorem cxR_no (h : tcaB P S l F W m i = false) : cxR P S l F W m i = ⟨#[]⟩ := by unfold cxR; rw [h]; rfl
theorem ct_area (h : TgP P S l F W m) (h0 : 0 ≤ i) (h1 : i < tcZ P S l F) : 0 ≤ tcaA P S l F W m i ∧ tcaA P S l F W m i < 30 := by
  obtain ⟨k, a, -, hk, hka, -, -, -, ha, -⟩ := tca_at h h0 h1
  rw [ha]
  obtain ⟨j, rfl, hj, -⟩ := sel_mem.1 (List.mem_of_getElem? hka)
  have := (ge_len h.g).2
  omega
theorem ct_vals (h : TgP P S l F W m) (h0 : 0 ≤ i) (h1 : i < tcZ P S l F) : (tcaL P S l F W m i).length = F.length ∧ ∀ (k : Nat) (nm : ByteArray) (lv : Int), (tbS S F)[k]? = some (nm, lv) → ∃ v, (tcaL P S l F W m i)[k]? = some v ∧ 0 ≤ v ∧ v < 8 := by
  obtain ⟨k, a, -, hk, hka, m0, -, -, -, hl⟩ := tca_at h h0 h1
  rw [hl]
  refine ⟨by rw [atL_len, tbS_len], fun j nm lv hj => ?_⟩
  have hjl := (List.getElem?_eq_some_iff.1 hj).1
  have hv : (atL (tbS S F) (i % cnZ (tbS S F)))[j]? = some ((atL (tbS S F) (i % cnZ (tbS S F)))[j]'(by rw [atL_len]; exact hjl)) := List.getElem?_eq_getElem _
  rcases tbS_ok h.s h.r with e | hs
  · rw [e] at hj; cases hj
  · have hf := at_fitE hs m0
    have h2 := fit_get hf hj hv
    have h3 := schB_lv hs hj
    exact ⟨_, hv, by omega, by omega⟩
theorem tbS_nm (h : TgP P S l F W m) {k : Nat} {nm : ByteArray} {lv : Int} (hk : (tbS S F)[k]? = some (nm, lv)) : nm.size ≤ 8 := by
  obtain ⟨j, hj, hSj⟩ := tbS_get h.r hk
  exact nm_size h.s (List.mem_of_getElem? hSj)
theorem ct_size (h : TgP P S l F W m) (h0 : 0 ≤ i) (h1 : i < tcZ P S l F) {k : Nat} (hk : k ≤ F.length) : (jnS 32 (ctW S F (tcaA P S l F W m i) (tcaL P S l F W m i) k)).size ≤ 200 := by
  have h6 := ptS_len (tbS_ok h.s h.r)
  have ht := tbS_len S F
  have ha := ct_area h h0 h1
  have hall : ∀ t ∈ ctW S F (tcaA P S l F W m i) (tcaL P S l F W m i) k, t.size + 1 ≤ 20 := by
    intro t ht2
    unfold ctW at ht2
    rcases List.mem_append.1 ht2 with h2 | h2
    · rcases List.mem_cons.1 h2 with rfl | h2
      · decide
      · obtain rfl := List.mem_singleton.1 h2
        have := numZ_2 ha.1 (by omega)
        omega
    · obtain ⟨j, hj, rfl⟩ := List.mem_map.1 h2
      have hj2 := List.mem_range.1 hj
      obtain ⟨p, hp⟩ : ∃ p, (tbS S F)[j]? = some p := ⟨_, List.getElem?_eq_getElem (by omega)⟩
      obtain ⟨nm, lv⟩ := p
      obtain ⟨v, hv, v0, v1⟩ := (ct_vals h h0 h1).2 j nm lv hp
      have hn := tbS_nm h hp
      have hz := numZ_2 v0 (by omega)
      rw [naA_at hp, List.getD_eq_getElem?_getD, hv]
      simp only [ByteArray.size_append, Option.getD_some]
      have : (⟨#[61]⟩ : ByteArray).size = 1 := rfl
      omega
  have := jnS_bound (b := 32) hall (n := 10) (by rw [ctW_len]; omega)
  omega
end
end Go.Proofs.YtgkaalonmkcclaaDoor

namespace Go.Proofs.YtgkaalonmkcclaaDoor
open Go.RowKit
set_option maxRecDepth 100000

/-- An integer and a list, handed back. -/
def RetIV (a : Int) (L : List Int) (w : World) (e : Ending) (w' : World) : Prop :=
  ∃ u, e = .returned (.tuple #[.int .i64 a, u]) ∧ w'.ownsRow w.heap.size 3 1 u L.length (iC L) ∧ Below w.heap.size w w'
theorem ret_iv {a b : Int} {u : Value} (h : a = b) : Ending.returned (.tuple #[.int .i64 a, u]) = .returned (.tuple #[.int .i64 b, u]) := by rw [h]
set_option maxHeartbeats 8000000 in
theorem gat_any (p x z ga : Option Addr) (va c c2 c3 ca cv : Nat) (P : List Int) (S : List (ByteArray × Int)) (l : Int) (F W : List Int) (m i : Int) (w : World) (htg : TgP P S l F W m) (h0 : 0 ≤ i) (h1 : i < tcZ P S l F) (hA : IIn w ga (lvL P l)) (hV : Rd w (some ⟨va, 0, none⟩) (vC (tbS S F))) (hva : va < w.heap.size) (hcv : (tbS S F).length ≤ cv) :
    Calls Tryd.prog 57 #[.agg #[.slice p P.length c, .int .i64 l, .slice x F.length c2, .slice z W.length c3, .int .i64 m, .slice ga (lvL P l).length ca, .slice (some ⟨va, 0, none⟩) (tbS S F).length cv], .int .i64 i] w (RetIV (tcaA P S l F W m i) (tcaL P S l F W m i) w) := by
  have hpt := Lib.hid (tbS_ok htg.s htg.r)
  have hl30 := (ge_len htg.g).2
  have hl := lvL_len P l
  have hAh := Lib.hid hA
  have hPt := Lib.hid hV
  have hi6 : i ≤ 600 := by have := htg.c; omega
  obtain ⟨k, a, hk, hkl, hka, hm0, hm1, hv1, hv2, hv3⟩ := tca_at htg h0 h1
  have hcn := pt_cn hpt.out
  have hv1 := Lib.hid hv1
  have hv2 := Lib.hid hv2
  have hv3 := Lib.hid hv3
  clear htg hA hV
  obtain ⟨W2, hW2⟩ : ∃ W2, W2 = w.alloc (.cells #[.slice p P.length c, .int .i64 l, .slice x F.length c2, .slice z W.length c3, .int .i64 m, .slice ga (lvL P l).length ca, .slice (some ⟨va, 0, none⟩) (tbS S F).length cv] 60) := ⟨_, rfl⟩
  have hG := g7_of_wb (Wb.new w 60 #[.slice p P.length c, .int .i64 l, .slice x F.length c2, .slice z W.length c3, .int .i64 m, .slice ga (lvL P l).length ca, .slice (some ⟨va, 0, none⟩) (tbS S F).length cv])
  rw [← hW2] at hG
  have BW : Below w.heap.size w W2 := by rw [hW2]; exact Below.alloc' (Below.refl _ _) _
  replace hG := Lib.hid hG
  replace hW2 := Lib.hid hW2
  obtain ⟨j0, j1, j2, j3, j4, j5, j6, jl⟩ := hG.out
  rw [hW2.out] at j0 j1 j2 j3 j4 j5 j6 jl
  go_enter Tryd.func57, Tryd.ntmps57
  go_wp2_with fail
  rw [← hW2.out]
  refine (countComb_p _ _ (tbS S F) _ hpt.out (hPt.out.below BW)).mono ?_
  rintro e w5 ⟨rfl, hb5⟩
  have B5 := Below.via' BW hb5
  clear j0 j1 j2 j3 j4 j5 j6 jl
  obtain ⟨i0, i1, i2, i3, i4, i5, i6, il⟩ := hG.out.below hb5
  have hAr := (hAh.out.below B5).2.2
  obtain ⟨b6, o6, a2, rfl, hb6, hka2, k6⟩ := hAr.int (i := k) hkl
  obtain rfl := Option.some.inj (hka2.symm.trans hka)
  have hSI : Hid (SIn w5 (some ⟨va, 0, none⟩) cv (tbS S F)) := by
    refine ⟨by have := ptS_len hpt.out; omega, hcv, ?_, hPt.out.below B5⟩
    intro q hq
    rcases hpt.out with e | hs
    · rw [e] at hq; cases hq
    · have h1 := schB_va hs hq
      unfold vaB nmB lvB at h1
      simp only [Bool.and_eq_true, decide_eq_true_eq] at h1
      unfold IsI64
      omega
  have d1 : (cnZ (tbS S F) == 0) = false := by rw [beq_eq_false_iff_ne]; omega
  have d0 : ¬ cnZ (tbS S F) = 0 := by omega
  have d2 : IntKind.i64.wrap (i.tdiv (cnZ (tbS S F))) = k := (IntWalk.i64_quo i _ ⟨by omega, by omega, by omega⟩).trans hk
  have d3 : IntKind.i64.wrap (i.tmod (cnZ (tbS S F))) = i % cnZ (tbS S F) := by rw [Int.tmod_eq_emod_of_nonneg (by omega)]; exact IntWalk.i64_in _ (by omega)
  have q2 : IntKind.i64.wrap (i / cnZ (tbS S F)) = k := by rw [hk]; exact IntWalk.i64_in _ (by omega)
  have hklt : (k : Int) < ((lvL P l).length : Int) := by omega
  have hva5 : va < w5.heap.size := Nat.lt_of_lt_of_le hva B5.size
  clear hAr hka hka2
  go_wp2
  refine wp_region_held_drew (S := fun X => Below w5.heap.size w5 X) (by kernel_rfl) (Below.drew (Below.refl _ _)) (fun hH => ?_)
  refine wpAnyH_take (i := 0) (v := ?_) rfl (by kernel_rfl) (by kernel_rfl) (by kernel_rfl) (fun _ _ _ h => h) (Or.inl ⟨by rfl, ?_⟩) (by assumption) ?_; rotate_left; · (intro wz hz; (have f0 := (hz.cell (p := ⟨w.heap.size, 2, none⟩) il).trans i2; have f1 := (hz.cell (p := ⟨w.heap.size, 3, none⟩) il).trans i3; have f2 := (hz.cell (p := ⟨b6, o6 + k, none⟩) hb6).trans k6; have f3 := (hz.cell (p := ⟨w.heap.size, 5, none⟩) il).trans i5; have f4 := (hz.cell (p := ⟨w.heap.size, 6, none⟩) il).trans i6); clear hz; go_simp; try with_reducible rfl); (try simp only [Act.put, List.getElem_toArray, List.getElem_cons_succ, List.getElem_cons_zero, List.setIfInBounds_toArray, List.set_cons_zero, List.set_cons_succ])
  refine wpAnyH_take (i := 1) (v := ?_) rfl (by kernel_rfl) (by kernel_rfl) (by kernel_rfl) (fun _ _ _ h => h) (Or.inl ⟨by rfl, ?_⟩) (by assumption) ?_; rotate_left; · (intro wz hz; (have f0 := (hz.cell (p := ⟨w.heap.size, 2, none⟩) il).trans i2; have f1 := (hz.cell (p := ⟨w.heap.size, 3, none⟩) il).trans i3; have f2 := (hz.cell (p := ⟨b6, o6 + k, none⟩) hb6).trans k6; have f3 := (hz.cell (p := ⟨w.heap.size, 5, none⟩) il).trans i5; have f4 := (hz.cell (p := ⟨w.heap.size, 6, none⟩) il).trans i6); clear hz; go_simp; try with_reducible rfl); (try simp only [Act.put, List.getElem_toArray, List.getElem_cons_succ, List.getElem_cons_zero, List.setIfInBounds_toArray, List.set_cons_zero, List.set_cons_succ])
  refine wpAnyH_take (i := 2) (v := ?_) rfl (by kernel_rfl) (by kernel_rfl) (by kernel_rfl) (fun _ _ _ h => h) (Or.inl ⟨by rfl, ?_⟩) (by assumption) ?_; rotate_left; · (intro wz hz; (skip); clear hz; go_simp; try with_reducible rfl); (try simp only [Act.put, List.getElem_toArray, List.getElem_cons_succ, List.getElem_cons_zero, List.setIfInBounds_toArray, List.set_cons_zero, List.set_cons_succ])
  refine wpAnyH_take (i := 3) (v := ?_) rfl (by kernel_rfl) (by kernel_rfl) (by kernel_rfl) (fun _ _ _ h => h) (Or.inl ⟨by rfl, ?_⟩) (by assumption) ?_; rotate_left; · (intro wz hz; (skip); clear hz; go_simp; try with_reducible rfl); (try simp only [Act.put, List.getElem_toArray, List.getElem_cons_succ, List.getElem_cons_zero, List.setIfInBounds_toArray, List.set_cons_zero, List.set_cons_succ])
  refine wpAnyH_take (i := 4) (v := ?_) rfl (by kernel_rfl) (by kernel_rfl) (by kernel_rfl) (fun _ _ _ h => h) (Or.inl ⟨by rfl, ?_⟩) (by assumption) ?_; rotate_left; · (intro wz hz; (skip); clear hz; go_simp; try with_reducible rfl); (try simp only [Act.put, List.getElem_toArray, List.getElem_cons_succ, List.getElem_cons_zero, List.setIfInBounds_toArray, List.set_cons_zero, List.set_cons_succ])
  refine wpAnyH_take (i := 5) (v := ?_) rfl (by kernel_rfl) (by kernel_rfl) (by kernel_rfl) (fun _ _ _ h => h) (Or.inl ⟨by rfl, ?_⟩) (by assumption) ?_; rotate_left; · (intro wz hz; (skip); clear hz; go_simp; try with_reducible rfl); (try simp only [Act.put, List.getElem_toArray, List.getElem_cons_succ, List.getElem_cons_zero, List.setIfInBounds_toArray, List.set_cons_zero, List.set_cons_succ])
  refine wpAnyH_take (i := 6) (v := ?_) rfl (by kernel_rfl) (by kernel_rfl) (by kernel_rfl) (fun _ _ _ h => h) (Or.inl ⟨by rfl, ?_⟩) (by assumption) ?_; rotate_left; · (intro wz hz; (have f0 := (hz.cell (p := ⟨w.heap.size, 2, none⟩) il).trans i2; have f1 := (hz.cell (p := ⟨w.heap.size, 3, none⟩) il).trans i3; have f2 := (hz.cell (p := ⟨b6, o6 + k, none⟩) hb6).trans k6; have f3 := (hz.cell (p := ⟨w.heap.size, 5, none⟩) il).trans i5; have f4 := (hz.cell (p := ⟨w.heap.size, 6, none⟩) il).trans i6); clear hz; go_simp; try with_reducible rfl); (try simp only [Act.put, List.getElem_toArray, List.getElem_cons_succ, List.getElem_cons_zero, List.setIfInBounds_toArray, List.set_cons_zero, List.set_cons_succ])
  refine wpAnyH_take (i := 7) (v := ?_) rfl (by kernel_rfl) (by kernel_rfl) (by kernel_rfl) (fun _ _ _ h => h) (Or.inl ⟨by rfl, ?_⟩) (by assumption) ?_; rotate_left; · (intro wz hz; (skip); clear hz; go_simp; try with_reducible rfl); (try simp only [Act.put, List.getElem_toArray, List.getElem_cons_succ, List.getElem_cons_zero, List.setIfInBounds_toArray, List.set_cons_zero, List.set_cons_succ])
  refine wpAnyH_take (i := 8) (v := ?_) rfl (by kernel_rfl) (by kernel_rfl) (by kernel_rfl) (fun _ _ _ h => h) (Or.inl ⟨by rfl, ?_⟩) (by assumption) ?_; rotate_left; · (intro wz hz; (have f0 := (hz.cell (p := ⟨w.heap.size, 2, none⟩) il).trans i2; have f1 := (hz.cell (p := ⟨w.heap.size, 3, none⟩) il).trans i3; have f2 := (hz.cell (p := ⟨b6, o6 + k, none⟩) hb6).trans k6; have f3 := (hz.cell (p := ⟨w.heap.size, 5, none⟩) il).trans i5; have f4 := (hz.cell (p := ⟨w.heap.size, 6, none⟩) il).trans i6); clear hz; go_simp; try with_reducible rfl); (try simp only [Act.put, List.getElem_toArray, List.getElem_cons_succ, List.getElem_cons_zero, List.setIfInBounds_toArray, List.set_cons_zero, List.set_cons_succ])
  refine wpAnyH_take (i := 9) (v := ?_) rfl (by kernel_rfl) (by kernel_rfl) (by kernel_rfl) (fun _ _ _ h => h) (Or.inl ⟨by rfl, ?_⟩) (by assumption) ?_; rotate_left; · (intro wz hz; (skip); clear hz; go_simp; try with_reducible rfl); (try simp only [Act.put, List.getElem_toArray, List.getElem_cons_succ, List.getElem_cons_zero, List.setIfInBounds_toArray, List.set_cons_zero, List.set_cons_succ])
  refine wpAnyH_take (i := 10) (v := ?_) rfl (by kernel_rfl) (by kernel_rfl) (by kernel_rfl) (fun _ _ _ h => h) (Or.inl ⟨by rfl, ?_⟩) (by assumption) ?_; rotate_left; · (intro wz hz; (skip); clear hz; go_simp; try with_reducible rfl); (try simp only [Act.put, List.getElem_toArray, List.getElem_cons_succ, List.getElem_cons_zero, List.setIfInBounds_toArray, List.set_cons_zero, List.set_cons_succ])
  refine wpAnyH_take (i := 11) (v := ?_) rfl (by kernel_rfl) (by kernel_rfl) (by kernel_rfl) (fun _ _ _ h => h) (Or.inl ⟨by rfl, ?_⟩) (by assumption) ?_; rotate_left; · (intro wz hz; (skip); clear hz; go_simp; try with_reducible rfl); (try simp only [Act.put, List.getElem_toArray, List.getElem_cons_succ, List.getElem_cons_zero, List.setIfInBounds_toArray, List.set_cons_zero, List.set_cons_succ])
  refine wpAnyH_ready (rs := [12]) (by kernel_rfl) (by simp) (AllReadyH.cons rfl (fun K hK => ?_) AllReadyH.nil); go_simp
  rw [show i.tmod (cnZ (tbS S F)) = i % cnZ (tbS S F) from Int.tmod_eq_emod_of_nonneg (by omega)]
  refine (combAt_p _ _ (tbS S F) _ _ (hSI.out.below hH) hpt.out (fun _ => ⟨va, 0, rfl, Nat.lt_of_lt_of_le hva5 hH.size⟩) hm0 hm1).mono ?_
  rintro e w7 ⟨u7, rfl, ho7, hb7⟩
  have ho7 := Lib.hid (own_more ho7 (Nat.le_trans B5.size hH.size))
  refine hK.out _ _ (Below.via' hH hb7) (fun h7 => ?_)
  clear hK K
  (try simp only [Act.put, List.getElem_toArray, List.getElem_cons_succ, List.getElem_cons_zero, List.setIfInBounds_toArray, List.set_cons_zero, List.set_cons_succ])
  refine wpAnyH_ready (rs := [13]) (by kernel_rfl) (by simp) (AllReadyH.cons rfl (fun K hK => ?_) AllReadyH.nil); go_simp
  refine hK.out _ _ h7 (fun h7 => ?_)
  clear hK K
  (try simp only [Act.put, List.getElem_toArray, List.getElem_cons_succ, List.getElem_cons_zero, List.setIfInBounds_toArray, List.set_cons_zero, List.set_cons_succ])
  refine wpAnyH_ready (rs := [14]) (by kernel_rfl) (by simp) (AllReadyH.cons rfl (fun K hK => ?_) AllReadyH.nil); go_simp
  refine hK.out _ _ h7 (fun h7 => ?_)
  clear hK K
  (try simp only [Act.put, List.getElem_toArray, List.getElem_cons_succ, List.getElem_cons_zero, List.setIfInBounds_toArray, List.set_cons_zero, List.set_cons_succ])
  refine wpAnyH_done (by kernel_rfl) ?_ _
  go_wp2_with fail
  go_ret2
  refine ⟨u7, ret_iv hv2.out.symm, ?_, Below.via' B5 h7⟩
  rw [hv3.out]
  exact ho7.out
end Go.Proofs.YtgkaalonmkcclaaDoor

namespace Go.Proofs.YtgkaalonmkcclaaDoor
open Go.RowKit
set_option maxRecDepth 100000

set_option maxHeartbeats 8000000 in
theorem textOf_any (p x z ga : Option Addr) (va c c2 c3 ca cv : Nat) (P : List Int) (S : List (ByteArray × Int)) (l : Int) (F W : List Int) (m i : Int) (w : World) (htg : TgP P S l F W m) (h0 : 0 ≤ i) (h1 : i < tcZ P S l F) (hA : IIn w ga (lvL P l)) (hV : Rd w (some ⟨va, 0, none⟩) (vC (tbS S F))) (hva : va < w.heap.size) (hcv : (tbS S F).length ≤ cv) :
    Calls Tryd.prog 33 #[.agg #[.slice p P.length c, .int .i64 l, .slice x F.length c2, .slice z W.length c3, .int .i64 m, .slice ga (lvL P l).length ca, .slice (some ⟨va, 0, none⟩) (tbS S F).length cv], .int .i64 i] w fun e w' => e = .returned (.string (ctX P S l F W m i)) ∧ Below w.heap.size w w' := by
  obtain ⟨i0, hii, hz0, hz1, hz2⟩ := info_parts Tryd.infoStr
  have hth := Lib.hid htg
  have hAh := Lib.hid hA
  have hPt := Lib.hid hV
  have harea := ct_area htg h0 h1
  have hvals := Lib.hid (ct_vals htg h0 h1)
  obtain ⟨L, hL⟩ : ∃ L : Nat → List ByteArray, L = ctW S F (tcaA P S l F W m i) (tcaL P S l F W m i) := ⟨_, rfl⟩
  have hLl : Hid (∀ k, (L k).length = k + 2) := by intro k; rw [hL]; exact ctW_len
  have hL0 : Hid (L 0 = [wArea, numZ (tcaA P S l F W m i)]) := by rw [hL]; exact ctW_zero
  have hLs : Hid (∀ (k : Nat) (nm : ByteArray) (lv v : Int), (tbS S F)[k]? = some (nm, lv) → (tcaL P S l F W m i)[k]? = some v → L (k + 1) = L k ++ [nm ++ ⟨#[61]⟩ ++ numZ v]) := by intro k nm lv v p q; rw [hL]; exact ctW_snoc p q
  have hLz : Hid (∀ k, k ≤ F.length → (jnS 32 (L k)).size ≤ 200) := by intro k hk; rw [hL]; exact ct_size htg h0 h1 hk
  have hLx : Hid (ctX P S l F W m i = jnS 32 (L F.length)) := by rw [hL]; rfl
  clear hL
  have h6 := ptS_len (tbS_ok htg.s htg.r)
  have hnT := Lib.hid (tbS_len S F)
  clear htg hA hV
  obtain ⟨W2, hW2⟩ : ∃ W2, W2 = w.alloc (.cells #[.slice p P.length c, .int .i64 l, .slice x F.length c2, .slice z W.length c3, .int .i64 m, .slice ga (lvL P l).length ca, .slice (some ⟨va, 0, none⟩) (tbS S F).length cv] 60) := ⟨_, rfl⟩
  have hG := g7_of_wb (Wb.new w 60 #[.slice p P.length c, .int .i64 l, .slice x F.length c2, .slice z W.length c3, .int .i64 m, .slice ga (lvL P l).length ca, .slice (some ⟨va, 0, none⟩) (tbS S F).length cv])
  rw [← hW2] at hG
  have BW : Below w.heap.size w W2 := by rw [hW2]; exact Below.alloc' (Below.refl _ _) _
  replace hG := Lib.hid hG
  replace hW2 := Lib.hid hW2
  obtain ⟨j0, j1, j2, j3, j4, j5, j6, jl⟩ := hG.out
  rw [hW2.out] at j0 j1 j2 j3 j4 j5 j6 jl
  go_enter Tryd.func33, Tryd.ntmps33
  go_wp2_with fail
  rw [← hW2.out]
  refine (gat_any p x z ga va _ _ _ _ _ P S l F W m i _ hth.out h0 h1 (hAh.out.below BW) (hPt.out.below BW) (Nat.lt_of_lt_of_le hva BW.size) hcv).mono ?_
  rintro e w5 ⟨u, rfl, ho, hb5⟩
  have B5 := Below.via' BW hb5
  obtain ⟨xv, nv, rfl, -, -⟩ := (OwR.of ho).form
  have hVr := Lib.hid (Rd.of_own ho)
  have hG5 := Lib.hid (hG.out.below hb5)
  clear ho hb5 j0 j1 j2 j3 j4 j5 j6 jl
  go_wp2_with fail
  refine (itoa_E _ _ harea.1 (by omega)).mono ?_
  rintro e w6 ⟨rfl, rfl⟩
  obtain ⟨wa, hwa⟩ : ∃ wa, wa = w6.alloc (.cells #[.string ⟨#[97, 114, 101, 97]⟩, .string (numZ (tcaA P S l F W m i))] 9) := ⟨_, rfl⟩
  have ow0 : wa.ownsRow w6.heap.size 9 1 (.slice (some ⟨w6.heap.size, 0, none⟩) 2 2) (L 0).length (tC (L 0)) := by
    rw [hL0.out, hwa]
    exact World.ownsRow_lit (base := w6.heap.size) (e := 9) (size := 1) w6 #[.string ⟨#[97, 114, 101, 97]⟩, .string (numZ (tcaA P S l F W m i))] 2 (Nat.le_refl _) (by unfold maxLen; omega) rfl
  have hBa : Below w6.heap.size w6 wa := by rw [hwa]; exact Below.alloc' (Below.refl _ _) _
  obtain ⟨k0, k1, k2, k3, k4, k5, k6, kl⟩ := hG5.out.below hBa
  replace ow0 := Lib.hid ow0
  replace hwa := Lib.hid hwa
  go_upto_region 3 with fail
  rw [← hwa.out]
  go_wp2
  go_loopw [7, 22] (fun u q wr => ∃ k : Nat, k ≤ (tbS S F).length ∧ q = .int .i64 k ∧ wr.ownsRow w6.heap.size 9 1 u (L k).length (tC (L k)) ∧ Below w6.heap.size w6 wr) (fun _ q _ => (tbS S F).length - (intOf q).toNat)
  case atStart => exact ⟨0, by omega, by go_num, ow0.out, hBa⟩
  case round =>
    clear ow0 hBa k0 k1 k2 k3 k4 k5 k6 kl
    obtain ⟨k, hk, rfl, hown, hBr⟩ := hrel
    have hownh := Lib.hid hown
    have hcl1 : 1 ≤ (L k).length := by rw [hLl.out]; omega
    have hcl2 : (L k).length ≤ 20 := by rw [hLl.out]; omega
    have hBw := Below.via' B5 hBr
    by_cases hlt : k < (tbS S F).length
    · obtain ⟨bl, off, nm, lv, hy, hbl, hTk, hc0, hc1⟩ := (hPt.out.below hBw).var hlt
      obtain ⟨rfl, rfl⟩ : va = bl ∧ off = 0 := by injection hy with hy; injection hy with a b; exact ⟨a, b.symm⟩
      rw [Nat.zero_add] at hc0 hc1
      obtain ⟨v, hvk, v0, v1⟩ := hvals.out.2 k nm lv hTk
      have hlk := (List.getElem?_eq_some_iff.1 hvk).1
      obtain ⟨bl2, off2, v', rfl, hbl2, hvk2, hc2⟩ := (hVr.out.below hBr).int hlk
      obtain rfl := Option.some.inj (hvk2.symm.trans hvk)
      have hns := tbS_nm hth.out hTk
      have hsn := Lib.hid (hLs.out k nm lv _ hTk hvk)
      have hlt' : (k : Int) < ((tbS S F).length : Int) := by omega
      have hlt2 : (k : Int) < ((tcaL P S l F W m i).length : Int) := by omega
      have hk0 : (0 : Int) ≤ (k : Int) := by omega
      have hnz := numZ_2 v0 (by omega)
      replace hTk := Lib.hid hTk
      replace hvk := Lib.hid hvk
      replace hvk2 := Lib.hid hvk2
      clear hown
      have e1 : (⟨#[61]⟩ : ByteArray).size = 1 := rfl
      have hs1 : ¬ 9223372036854775807 < nm.size + (⟨#[61]⟩ : ByteArray).size := by rw [e1]; omega
      have hs2 : ¬ 9223372036854775807 < (nm ++ ⟨#[61]⟩).size + (numZ v').size := by rw [ByteArray.size_append, e1]; omega
      have hs3 : ¬ 9223372036854775807 < nm.size + 1 := by omega
      have hs4 : ¬ 9223372036854775807 < nm.size + 1 + (numZ v').size := by omega
      clear e1
      obtain ⟨wv, hwv⟩ : ∃ wv, wv = wr.alloc (.cells #[.string nm, .int .i64 lv] 52) := ⟨_, rfl⟩
      have hV := Wb.new wr 52 #[.string nm, .int .i64 lv]
      have hbw : Below wr.heap.size wr wv := by rw [hwv]; exact Below.alloc' (Below.refl _ _) _
      rw [← hwv] at hV
      have V3 := Lib.hid hV
      have ho3 := Lib.hid (own_below hownh.out hbw)
      have hBr3 := Below.via' hBr hbw
      have hc3 := (hbw.cell (p := ⟨bl2, off2 + k, none⟩) hbl2).trans hc2
      have r30 : wv.cell? ⟨wr.heap.size, 0, none⟩ = some (.string nm) := (V3.out.read 0).trans rfl
      have r31 : wv.cell? ⟨wr.heap.size, 1, none⟩ = some (.int .i64 lv) := (V3.out.read 1).trans rfl
      have hbl3 : bl2 < wv.heap.size := Nat.lt_of_lt_of_le hbl2 hbw.size
      replace hwv := Lib.hid hwv
      clear hV hownh
      go_upto_region 6 with fail
      rw [← hwv.out]
      clear hc0 hc1 hc2
      go_region_law (first
        | (go_simp; go_at_call 42; refine (itoa_E v' _ v0 (by omega)).mono ?_; rintro e w7 ⟨rfl, hw7⟩; (have hb7 : Below wv.heap.size wv w7 := by rw [hw7]; exact Below.drew (Below.refl _ _)); clear hw7; (have O4 := Lib.hid (own_below ho3.out hb7)); (have V4 := Lib.hid (V3.out.kept hb7)); (have r40 : w7.cell? ⟨wr.heap.size, 0, none⟩ = some (.string nm) := (V4.out.read 0).trans rfl); (have r41 : w7.cell? ⟨wr.heap.size, 1, none⟩ = some (.int .i64 lv) := (V4.out.read 1).trans rfl); (have hc4 := (hb7.cell (p := ⟨bl2, off2 + k, none⟩) hbl3).trans hc3); (have hB4 := Below.via' hBr3 hb7); (have hs40 := hB4.size))
        | (go_loud (refine step_append_rd _ rfl (.tmp 27) (.tmp 37) 72 rfl w6.heap.size 9 i0 (.string ⟨#[]⟩) 1 16 Tryd.underlying72 hii hz0 hz1 hz2 rfl (by decide) _ (L k).length (tC (L k)) rfl (O4.out.alloc _) _ 1 1 rfl (Nat.le_refl _) (by intro h; cases h) (tC [nm ++ ⟨#[61]⟩ ++ numZ v']) rfl (Rd.oneS _ _ _) (tC_one _) (by unfold maxLen; omega) (by omega) (by simp; omega) ?_); intro v5 w8 hown5 hgrow5 hwhere5))
      all_goals
        obtain ⟨hb8, -⟩ := append_below hB4 (fun k hk => (O4.out.lt k hk).1) hgrow5 hwhere5
        have hown6 := Lib.hid (own_eq (n' := (L (k + 1)).length) (ys := tC (L (k + 1))) hown5 (by rw [hsn.out]; simp) (by rw [hsn.out, tC_app]))
        clear hgrow5 hwhere5 hown5 r30 r31 hc3 r40 r41 hc4 hb7
        go_wp2
        go_roundw
        case rel => exact ⟨k + 1, by omega, by go_num, hown6.out, hb8⟩
        case measure => simp [intOf]; omega
    · have hij : k = F.length := by have := hnT.out; omega
      subst hij
      obtain ⟨g9, c9, rfl⟩ := own_some2 hown (by omega)
      have hc9 : (L F.length).length ≤ c9 := by obtain ⟨a, b, e1, e2, -⟩ := (OwR.of hown).form; injection e1 with _ _ e3; omega
      have hrd9 := Lib.hid (Rd.of_own hown)
      have hz9 := hLz.out F.length (Nat.le_refl _)
      have hjn := Lib.hid (join_S g9 c9 32 (L F.length) wr (by omega) (by omega) hc9 (by omega) hrd9.out)
      have hlt' : ¬ (F.length : Int) < ((tbS S F).length : Int) := by have := hnT.out; omega
      clear hown hownh
      go_wp2_with fail
      refine hjn.out.mono ?_
      rintro e w10 ⟨rfl, hb10⟩
      go_wp2
      go_ret
      exact ⟨by rw [hLx.out]; rfl, Below.via' hBw hb10⟩
end Go.Proofs.YtgkaalonmkcclaaDoor

namespace Go.Proofs.YtgkaalonmkcclaaDoor
open Go.RowKit
set_option maxRecDepth 100000

set_option maxHeartbeats 8000000 in
theorem sCAt_x (p y x z : Option Addr) (c c1 c2 c3 : Nat) (P : List Int) (S : List (ByteArray × Int)) (l : Int) (F W : List Int) (m i : Int) (w : World) (hP : IIn w p P) (hS : SIn w y c1 S) (hT : TIn w x z F W) :
    Calls Tryd.prog 49 #[.agg #[.slice p P.length c], .slice y S.length c1, .agg #[.int .i64 l, .slice x F.length c2, .slice z W.length c3, .int .i64 m], .int .i64 i] w (RetIL (tcaA P S l F W m i) (tcaL P S l F W m i) (tcaB P S l F W m i) w) := by
  have hPh := Lib.hid hP
  have hSh := Lib.hid hS
  have hFh := Lib.hid hT.1
  have hWh := Lib.hid hT.2
  clear hP hS hT
  have p1 := Lib.hid (QB.new w p P.length c 33)
  have p2 := Lib.hid (TQ.new (w.alloc (.cells #[.slice p P.length c] 33)) l x F.length c2 z W.length c3 m 37)
  obtain ⟨w0, hw0⟩ : ∃ w0, w0 = (w.alloc (.cells #[.slice p P.length c] 33)).alloc (.cells #[.int .i64 l, .slice x F.length c2, .slice z W.length c3, .int .i64 m] 37) := ⟨_, rfl⟩
  have B0 : Below w.heap.size w w0 := by rw [hw0]; exact (by repeat (first | exact Below.refl _ _ | assumption | refine Below.drew ?_ | refine below_drewN ?_ _ | refine Below.alloc' ?_ _ | (refine Below.setCell ?_ (by first | omega | (simp; done) | (simp; omega) | exact Below.size (by assumption) | exact Nat.le_trans (Below.size (by assumption)) (by simp)) _) | (refine Below.via' ?_ (by assumption)) | (refine Below.alloc ?_ (by first | omega | (simp; done) | (simp; omega) | exact Below.size (by assumption) | exact Nat.le_trans (Below.size (by assumption)) (by simp)) _) | (refine Below.via ?_ (by assumption) (by first | omega | (simp; done) | (simp; omega) | exact Below.size (by assumption) | exact Nat.le_trans (Below.size (by assumption)) (by simp)))))
  have g0 : Hid (QB w0 w.heap.size p P.length c) := by
    rw [hw0]
    exact p1.out.below (show Below (w.alloc (.cells #[.slice p P.length c] 33)).heap.size (w.alloc (.cells #[.slice p P.length c] 33)) _ from (by repeat (first | exact Below.refl _ _ | assumption | refine Below.drew ?_ | refine below_drewN ?_ _ | refine Below.alloc' ?_ _ | (refine Below.setCell ?_ (by first | omega | (simp; done) | (simp; omega) | exact Below.size (by assumption) | exact Nat.le_trans (Below.size (by assumption)) (by simp)) _) | (refine Below.via' ?_ (by assumption)) | (refine Below.alloc ?_ (by first | omega | (simp; done) | (simp; omega) | exact Below.size (by assumption) | exact Nat.le_trans (Below.size (by assumption)) (by simp)) _) | (refine Below.via ?_ (by assumption) (by first | omega | (simp; done) | (simp; omega) | exact Below.size (by assumption) | exact Nat.le_trans (Below.size (by assumption)) (by simp))))))
  have t0 : Hid (TQ w0 (w.heap.size + 1) l x F.length c2 z W.length c3 m) := by
    have h0 := p2.out
    rw [World.size_alloc, ← hw0] at h0
    exact h0
  have z0 : w0.heap.size = w.heap.size + 1 + 1 := by rw [hw0]; simp
  clear p1 p2
  go_enter Tryd.func49, Tryd.ntmps49
  go_wp2_with fail
  rw [← hw0]
  replace hw0 := Lib.hid hw0
  replace z0 := Lib.hid z0
  refine (uGood_any p y x z _ _ _ _ P S l m F W _ (hPh.out.below B0) (hSh.out.below B0) ⟨hFh.out.below B0, hWh.out.below B0⟩).mono ?_
  rintro e w1 ⟨rfl, hb1⟩
  have B1 : Below w.heap.size w w1 := Below.via' B0 hb1
  have g1 := Lib.hid (g0.out.below hb1)
  have t1 := Lib.hid (t0.out.below hb1)
  obtain ⟨ka1, kb1, kc1⟩ := g1.out
  obtain ⟨ta1, tb1, tc1, td1, te1⟩ := t1.out
  try clear ka0 kb0 kc0 ta0 tb0 tc0 td0 te0
  clear hb1
  cases htg : tgB P S l F W m
  · have hv := Lib.hid (tca_no1 (i := i) htg)
    go_wp2
    go_ret3
    exact retIL_no (tca_no0 hv.out) hv.out B1
  have htp := tg_iff.1 htg
  have hgh := Lib.hid htp.g
  have hsh := Lib.hid htp.s
  have hrh := Lib.hid htp.r
  have hip := Lib.hid (inP_of htp.s htp.r rfl)
  have hpt := Lib.hid (tbS_ok htp.s htp.r)
  have hl30 := (ge_len htp.g).2
  have hc6 := htp.c
  have hc1 := tc_pos htp
  have htph := Lib.hid htp
  replace htg := Lib.hid htg
  clear htp
  have q1 : IntKind.i64.wrap (tcZ P S l F - 1) = tcZ P S l F - 1 := IntWalk.i64_in _ (by omega)
  go_wp2_with fail
  refine (uCount_any p y x z _ _ _ _ P S l m F W _ hgh.out hsh.out hrh.out (hPh.out.below B1) (hSh.out.below B1) (hFh.out.below B1)).mono ?_
  rintro e w2 ⟨rfl, hb2⟩
  have B2 : Below w.heap.size w w2 := Below.via' B1 hb2
  have g2 := Lib.hid (g1.out.below hb2)
  have t2 := Lib.hid (t1.out.below hb2)
  obtain ⟨ka2, kb2, kc2⟩ := g2.out
  obtain ⟨ta2, tb2, tc2, td2, te2⟩ := t2.out
  try clear ka1 kb1 kc1 ta1 tb1 tc1 td1 te1
  clear hb2
  cases hin : inB i 0 (tcZ P S l F - 1)
  · have hv := Lib.hid (tca_no2 (W := W) (m := m) hin)
    go_wp2_with fail
    refine (l1In_any _ _ _ _).mono ?_
    rintro e w3 ⟨rfl, rfl⟩
    rw [hin]
    go_wp2
    go_ret3
    exact retIL_no (tca_no0 hv.out) hv.out B2
  have hin2 := (inB_iff _ _ _).1 hin
  obtain ⟨k, a, hk, hkl, hka, hm0, hm1, hv1, hv2, hv3⟩ := tca_at htph.out hin2.1 (show i < tcZ P S l F by omega)
  have hcn := pt_cn hpt.out
  have hi0 := hin2.1
  have hi6 : i ≤ 600 := by omega
  have hv1 := Lib.hid hv1
  have hv2 := Lib.hid hv2
  have hv3 := Lib.hid hv3
  have hka := Lib.hid hka
  clear hin2
  go_wp2_with fail
  refine (l1In_any _ _ _ _).mono ?_
  rintro e w3 ⟨rfl, rfl⟩
  rw [hin]
  replace hin := Lib.hid hin
  clear q1 hc1 hc6
  go_wp2_with fail
  refine (sPart_any _ _ _ _ S F _ hip.out (hSh.out.rd.below B2) (hFh.out.2.2.below B2)).mono ?_
  rintro e w4 ⟨u4, rfl, ho4, hb4⟩
  obtain ⟨x4, n4, rfl, -, -⟩ := (OwR.of ho4).form
  have hr4 := Lib.hid (Rd.of_own ho4)
  clear ho4
  have B4 : Below w.heap.size w w4 := Below.via' B2 hb4
  have g4 := Lib.hid (g2.out.below hb4)
  have t4 := Lib.hid (t2.out.below hb4)
  obtain ⟨ka4, kb4, kc4⟩ := g4.out
  obtain ⟨ta4, tb4, tc4, td4, te4⟩ := t4.out
  try clear ka2 kb2 kc2 ta2 tb2 tc2 td2 te2
  clear hb4
  go_wp2_with fail
  refine (sCount_p _ _ (tbS S F) _ hpt.out hr4.out).mono ?_
  rintro e w5 ⟨rfl, hb5⟩
  have hr5 := Lib.hid (hr4.out.below hb5)
  have B5 : Below w.heap.size w w5 := Below.via' B4 hb5
  have g5 := Lib.hid (g4.out.below hb5)
  have t5 := Lib.hid (t4.out.below hb5)
  obtain ⟨ka5, kb5, kc5⟩ := g5.out
  obtain ⟨ta5, tb5, tc5, td5, te5⟩ := t5.out
  try clear ka4 kb4 kc4 ta4 tb4 tc4 td4 te4
  clear hb5
  have d1 : (cnZ (tbS S F) == 0) = false := by rw [beq_eq_false_iff_ne]; omega
  have d0 : ¬ cnZ (tbS S F) = 0 := by omega
  have d2 : IntKind.i64.wrap (i.tdiv (cnZ (tbS S F))) = k := (IntWalk.i64_quo i _ ⟨by omega, by omega, by omega⟩).trans hk
  have d3 : IntKind.i64.wrap (i.tmod (cnZ (tbS S F))) = i % cnZ (tbS S F) := by rw [Int.tmod_eq_emod_of_nonneg (by omega)]; exact IntWalk.i64_in _ (by omega)
  have q2 : IntKind.i64.wrap (i / cnZ (tbS S F)) = k := by rw [hk]; exact IntWalk.i64_in _ (by have := lvL_len P l; omega)
  have hklt : (k : Int) < ((lvL P l).length : Int) := by omega
  go_wp2
  refine wp_region_held_drew (S := fun X => Below w5.heap.size w5 X) (by kernel_rfl) (Below.drew (Below.refl _ _)) (fun hH => ?_)
  refine wpAnyH_take (i := 0) (v := ?_) rfl (by kernel_rfl) (by kernel_rfl) (by kernel_rfl) (fun _ _ _ h => h) (Or.inl ⟨by rfl, ?_⟩) (by assumption) ?_; rotate_left; · (intro wz hz; (have f0 := (hz.cell (p := ⟨w.heap.size, 0, none⟩) kc5).trans ka5; have f1 := (hz.cell (p := ⟨w.heap.size + 1, 0, none⟩) te5).trans ta5); clear hz; go_simp; try with_reducible rfl); (try simp only [Act.put, List.getElem_toArray, List.getElem_cons_succ, List.getElem_cons_zero, List.setIfInBounds_toArray, List.set_cons_zero, List.set_cons_succ])
  refine wpAnyH_take (i := 1) (v := ?_) rfl (by kernel_rfl) (by kernel_rfl) (by kernel_rfl) (fun _ _ _ h => h) (Or.inl ⟨by rfl, ?_⟩) (by assumption) ?_; rotate_left; · (intro wz hz; (have f0 := (hz.cell (p := ⟨w.heap.size, 0, none⟩) kc5).trans ka5; have f1 := (hz.cell (p := ⟨w.heap.size + 1, 0, none⟩) te5).trans ta5); clear hz; go_simp; try with_reducible rfl); (try simp only [Act.put, List.getElem_toArray, List.getElem_cons_succ, List.getElem_cons_zero, List.setIfInBounds_toArray, List.set_cons_zero, List.set_cons_succ])
  refine wpAnyH_take (i := 2) (v := ?_) rfl (by kernel_rfl) (by kernel_rfl) (by kernel_rfl) (fun _ _ _ h => h) (Or.inl ⟨by rfl, ?_⟩) (by assumption) ?_; rotate_left; · (intro wz hz; (have f0 := (hz.cell (p := ⟨w.heap.size, 0, none⟩) kc5).trans ka5; have f1 := (hz.cell (p := ⟨w.heap.size + 1, 0, none⟩) te5).trans ta5); clear hz; go_simp; try with_reducible rfl); (try simp only [Act.put, List.getElem_toArray, List.getElem_cons_succ, List.getElem_cons_zero, List.setIfInBounds_toArray, List.set_cons_zero, List.set_cons_succ])
  refine wpAnyH_take (i := 4) (v := ?_) rfl (by kernel_rfl) (by kernel_rfl) (by kernel_rfl) (fun _ _ _ h => h) (Or.inl ⟨by rfl, ?_⟩) (by assumption) ?_; rotate_left; · (intro wz hz; (skip); clear hz; go_simp; try with_reducible rfl); (try simp only [Act.put, List.getElem_toArray, List.getElem_cons_succ, List.getElem_cons_zero, List.setIfInBounds_toArray, List.set_cons_zero, List.set_cons_succ])
  refine wpAnyH_take (i := 5) (v := ?_) rfl (by kernel_rfl) (by kernel_rfl) (by kernel_rfl) (fun _ _ _ h => h) (Or.inl ⟨by rfl, ?_⟩) (by assumption) ?_; rotate_left; · (intro wz hz; (skip); clear hz; go_simp; try with_reducible rfl); (try simp only [Act.put, List.getElem_toArray, List.getElem_cons_succ, List.getElem_cons_zero, List.setIfInBounds_toArray, List.set_cons_zero, List.set_cons_succ])
  refine wpAnyH_take (i := 6) (v := ?_) rfl (by kernel_rfl) (by kernel_rfl) (by kernel_rfl) (fun _ _ _ h => h) (Or.inl ⟨by rfl, ?_⟩) (by assumption) ?_; rotate_left; · (intro wz hz; (skip); clear hz; go_simp; try with_reducible rfl); (try simp only [Act.put, List.getElem_toArray, List.getElem_cons_succ, List.getElem_cons_zero, List.setIfInBounds_toArray, List.set_cons_zero, List.set_cons_succ])
  refine wpAnyH_take (i := 9) (v := ?_) rfl (by kernel_rfl) (by kernel_rfl) (by kernel_rfl) (fun _ _ _ h => h) (Or.inl ⟨by rfl, ?_⟩) (by assumption) ?_; rotate_left; · (intro wz hz; (skip); clear hz; go_simp; try with_reducible rfl); (try simp only [Act.put, List.getElem_toArray, List.getElem_cons_succ, List.getElem_cons_zero, List.setIfInBounds_toArray, List.set_cons_zero, List.set_cons_succ])
  refine wpAnyH_take (i := 10) (v := ?_) rfl (by kernel_rfl) (by kernel_rfl) (by kernel_rfl) (fun _ _ _ h => h) (Or.inl ⟨by rfl, ?_⟩) (by assumption) ?_; rotate_left; · (intro wz hz; (skip); clear hz; go_simp; try with_reducible rfl); (try simp only [Act.put, List.getElem_toArray, List.getElem_cons_succ, List.getElem_cons_zero, List.setIfInBounds_toArray, List.set_cons_zero, List.set_cons_succ])
  refine wpAnyH_take (i := 11) (v := ?_) rfl (by kernel_rfl) (by kernel_rfl) (by kernel_rfl) (fun _ _ _ h => h) (Or.inl ⟨by rfl, ?_⟩) (by assumption) ?_; rotate_left; · (intro wz hz; (skip); clear hz; go_simp; try with_reducible rfl); (try simp only [Act.put, List.getElem_toArray, List.getElem_cons_succ, List.getElem_cons_zero, List.setIfInBounds_toArray, List.set_cons_zero, List.set_cons_succ])
  refine wpAnyH_take (i := 12) (v := ?_) rfl (by kernel_rfl) (by kernel_rfl) (by kernel_rfl) (fun _ _ _ h => h) (Or.inl ⟨by rfl, ?_⟩) (by assumption) ?_; rotate_left; · (intro wz hz; (skip); clear hz; go_simp; try with_reducible rfl); (try simp only [Act.put, List.getElem_toArray, List.getElem_cons_succ, List.getElem_cons_zero, List.setIfInBounds_toArray, List.set_cons_zero, List.set_cons_succ])
  refine wpAnyH_ready (rs := [3]) (by kernel_rfl) (by simp) (AllReadyH.cons rfl (fun K hK => ?_) AllReadyH.nil); go_simp
  refine (gLevel_any _ _ P l _ hgh.out (hPh.out.below (Below.via' B5 hH))).mono ?_
  rintro e w6 ⟨v6, rfl, ho6, hb6⟩
  obtain ⟨b6, c6, rfl⟩ := own_some ho6 (by omega)
  obtain ⟨u6, hu6, k6⟩ := own_cell ho6 (j := k) (by omega)
  obtain rfl : u6 = .int .i64 a := Option.some.inj (hu6.symm.trans (iC_at hka.out))
  have l6 := (own_lt ho6).2
  clear hu6 ho6
  refine hK.out _ _ (Below.via' hH hb6) (fun h6 => ?_)
  clear hK K
  (try simp only [Act.put, List.getElem_toArray, List.getElem_cons_succ, List.getElem_cons_zero, List.setIfInBounds_toArray, List.set_cons_zero, List.set_cons_succ])
  refine wpAnyH_take (i := 7) (v := ?_) rfl (by kernel_rfl) (by kernel_rfl) (by kernel_rfl) (fun _ _ _ h => h) (Or.inl ⟨by rfl, ?_⟩) (by assumption) ?_; rotate_left; · (intro wz hz; (skip); clear hz; go_simp; try with_reducible rfl); (try simp only [Act.put, List.getElem_toArray, List.getElem_cons_succ, List.getElem_cons_zero, List.setIfInBounds_toArray, List.set_cons_zero, List.set_cons_succ])
  refine wpAnyH_ready (rs := [8, 13]) (by kernel_rfl) (by simp) (AllReadyH.cons rfl (fun K hK => ?_) (AllReadyH.cons rfl (fun K hK => ?_) AllReadyH.nil))
  go_simp
  refine hK.out _ _ h6 (fun h6b => ?_)
  clear hK K
  (try simp only [Act.put, List.getElem_toArray, List.getElem_cons_succ, List.getElem_cons_zero, List.setIfInBounds_toArray, List.set_cons_zero, List.set_cons_succ])
  refine wpAnyH_ready (rs := [13]) (by kernel_rfl) (by simp) (AllReadyH.cons rfl (fun K hK => ?_) AllReadyH.nil); go_simp
  try rw [show i.tmod (cnZ (tbS S F)) = i % cnZ (tbS S F) from Int.tmod_eq_emod_of_nonneg (by omega)]
  refine (sAt_p _ _ (tbS S F) _ _ hpt.out hm0 (by omega) (hr5.out.below h6)).mono ?_
  rintro e w7 ⟨u7, rfl, ho7, hb7⟩
  have ho7 := Lib.hid (own_more ho7 (Nat.le_trans B5.size h6.size))
  refine hK.out _ _ (Below.via' h6 hb7) (fun h7 => ?_)
  clear hK K
  (try simp only [Act.put, List.getElem_toArray, List.getElem_cons_succ, List.getElem_cons_zero, List.setIfInBounds_toArray, List.set_cons_zero, List.set_cons_succ])
  refine wpAnyH_ready (rs := [14]) (by kernel_rfl) (by simp) (AllReadyH.cons rfl (fun K hK => ?_) AllReadyH.nil); go_simp
  refine hK.out _ _ h7 (fun h7 => ?_)
  clear hK K
  (try simp only [Act.put, List.getElem_toArray, List.getElem_cons_succ, List.getElem_cons_zero, List.setIfInBounds_toArray, List.set_cons_zero, List.set_cons_succ])
  refine wpAnyH_ready (rs := [15]) (by kernel_rfl) (by simp) (AllReadyH.cons rfl (fun K hK => ?_) AllReadyH.nil); go_simp
  refine hK.out _ _ h7 (fun h7 => ?_)
  clear hK K
  (try simp only [Act.put, List.getElem_toArray, List.getElem_cons_succ, List.getElem_cons_zero, List.setIfInBounds_toArray, List.set_cons_zero, List.set_cons_succ])
  refine wpAnyH_ready (rs := [16]) (by kernel_rfl) (by simp) (AllReadyH.cons rfl (fun K hK => ?_) AllReadyH.nil); go_simp
  refine hK.out _ _ h7 (fun h7 => ?_)
  clear hK K
  (try simp only [Act.put, List.getElem_toArray, List.getElem_cons_succ, List.getElem_cons_zero, List.setIfInBounds_toArray, List.set_cons_zero, List.set_cons_succ])
  refine wpAnyH_done (by kernel_rfl) ?_ _
  go_wp2_with fail
  go_ret3
  refine ⟨u7, ret_ivb hv2.out.symm hv1.out.symm, ?_, Below.via' B5 h7⟩
  rw [hv3.out]
  exact ho7.out
  go_simp
  try rw [show i.tmod (cnZ (tbS S F)) = i % cnZ (tbS S F) from Int.tmod_eq_emod_of_nonneg (by omega)]
  refine (sAt_p _ _ (tbS S F) _ _ hpt.out hm0 (by omega) (hr5.out.below h6)).mono ?_
  rintro e w7 ⟨u7, rfl, ho7, hb7⟩
  have ho7 := Lib.hid (own_more ho7 (Nat.le_trans B5.size h6.size))
  refine hK.out _ _ (Below.via' h6 hb7) (fun h7 => ?_)
  clear hK K
  (try simp only [Act.put, List.getElem_toArray, List.getElem_cons_succ, List.getElem_cons_zero, List.setIfInBounds_toArray, List.set_cons_zero, List.set_cons_succ])
  have k7 := (hb7.cell (p := ⟨b6, k, none⟩) l6).trans k6
  refine wpAnyH_ready (rs := [8]) (by kernel_rfl) (by simp) (AllReadyH.cons rfl (fun K hK => ?_) AllReadyH.nil); go_simp
  refine hK.out _ _ h7 (fun h7b => ?_)
  clear hK K
  (try simp only [Act.put, List.getElem_toArray, List.getElem_cons_succ, List.getElem_cons_zero, List.setIfInBounds_toArray, List.set_cons_zero, List.set_cons_succ])
  refine wpAnyH_ready (rs := [14]) (by kernel_rfl) (by simp) (AllReadyH.cons rfl (fun K hK => ?_) AllReadyH.nil); go_simp
  refine hK.out _ _ h7 (fun h7 => ?_)
  clear hK K
  (try simp only [Act.put, List.getElem_toArray, List.getElem_cons_succ, List.getElem_cons_zero, List.setIfInBounds_toArray, List.set_cons_zero, List.set_cons_succ])
  refine wpAnyH_ready (rs := [15]) (by kernel_rfl) (by simp) (AllReadyH.cons rfl (fun K hK => ?_) AllReadyH.nil); go_simp
  refine hK.out _ _ h7 (fun h7 => ?_)
  clear hK K
  (try simp only [Act.put, List.getElem_toArray, List.getElem_cons_succ, List.getElem_cons_zero, List.setIfInBounds_toArray, List.set_cons_zero, List.set_cons_succ])
  refine wpAnyH_ready (rs := [16]) (by kernel_rfl) (by simp) (AllReadyH.cons rfl (fun K hK => ?_) AllReadyH.nil); go_simp
  refine hK.out _ _ h7 (fun h7 => ?_)
  clear hK K
  (try simp only [Act.put, List.getElem_toArray, List.getElem_cons_succ, List.getElem_cons_zero, List.setIfInBounds_toArray, List.set_cons_zero, List.set_cons_succ])
  refine wpAnyH_done (by kernel_rfl) ?_ _
  go_wp2_with fail
  go_ret3
  refine ⟨u7, ret_ivb hv2.out.symm hv1.out.symm, ?_, Below.via' B5 h7⟩
  rw [hv3.out]
  exact ho7.out
end Go.Proofs.YtgkaalonmkcclaaDoor

namespace Go.Proofs.YtgkaalonmkcclaaDoor
open Go.RowKit
set_option maxRecDepth 100000

set_option maxHeartbeats 8000000 in
theorem nCell_any (p y x z : Option Addr) (c c1 c2 c3 : Nat) (P : List Int) (S : List (ByteArray × Int)) (l : Int) (F W : List Int) (m i : Int) (w : World) (htg : TgP P S l F W m) (h0 : 0 ≤ i) (h1 : i < tcZ P S l F) (hP : IIn w p P) (hS : SIn w y c1 S) (hT : TIn w x z F W) :
    Calls Tryd.prog 30 #[.agg #[.slice p P.length c], .slice y S.length c1, .agg #[.int .i64 l, .slice x F.length c2, .slice z W.length c3, .int .i64 m], .int .i64 i] w fun e w' => e = .returned (.string (ctX P S l F W m i)) ∧ Below w.heap.size w w' := by
  have hth := Lib.hid htg
  have harea := ct_area htg h0 h1
  have hvals := Lib.hid (ct_vals htg h0 h1)
  obtain ⟨L, hL⟩ : ∃ L : Nat → ByteArray, L = fun k => jnS 32 (ctW S F (tcaA P S l F W m i) (tcaL P S l F W m i) k) := ⟨_, rfl⟩
  have hL0 : Hid (L 0 = ⟨#[97, 114, 101, 97, 32]⟩ ++ numZ (tcaA P S l F W m i)) := by unfold Hid; rw [hL]; exact jn_zero
  have hLs : Hid (∀ (k : Nat) (nm : ByteArray) (lv v : Int), (tbS S F)[k]? = some (nm, lv) → (tcaL P S l F W m i)[k]? = some v → L (k + 1) = L k ++ (((⟨#[32]⟩ ++ nm) ++ ⟨#[61]⟩) ++ numZ v)) := by intro k nm lv v p q; rw [hL]; exact jn_next p q
  have hLz : Hid (∀ k, k ≤ F.length → (L k).size ≤ 200) := by intro k hk; rw [hL]; exact ct_size htg h0 h1 hk
  have hLx : Hid (ctX P S l F W m i = L F.length) := by rw [hL]; rfl
  clear hL
  have h6 := ptS_len (tbS_ok htg.s htg.r)
  rw [tbS_len] at h6
  have htb : Hid (tcaB P S l F W m i = true) := by
    obtain ⟨k, a, -, -, -, -, -, hv1, -, -⟩ := tca_at htg h0 h1
    exact hv1
  clear htg
  have hPh := Lib.hid hP
  have hSh := Lib.hid hS
  have hFh := Lib.hid hT.1
  have hWh := Lib.hid hT.2
  clear hP hS hT
  have p1 := Lib.hid (QB.new w p P.length c 33)
  have p2 := Lib.hid (TQ.new (w.alloc (.cells #[.slice p P.length c] 33)) l x F.length c2 z W.length c3 m 37)
  obtain ⟨w0, hw0⟩ : ∃ w0, w0 = (w.alloc (.cells #[.slice p P.length c] 33)).alloc (.cells #[.int .i64 l, .slice x F.length c2, .slice z W.length c3, .int .i64 m] 37) := ⟨_, rfl⟩
  have B0 : Below w.heap.size w w0 := by rw [hw0]; exact (by repeat (first | exact Below.refl _ _ | assumption | refine Below.drew ?_ | refine below_drewN ?_ _ | refine Below.alloc' ?_ _ | (refine Below.setCell ?_ (by first | omega | (simp; done) | (simp; omega) | exact Below.size (by assumption) | exact Nat.le_trans (Below.size (by assumption)) (by simp)) _) | (refine Below.via' ?_ (by assumption)) | (refine Below.alloc ?_ (by first | omega | (simp; done) | (simp; omega) | exact Below.size (by assumption) | exact Nat.le_trans (Below.size (by assumption)) (by simp)) _) | (refine Below.via ?_ (by assumption) (by first | omega | (simp; done) | (simp; omega) | exact Below.size (by assumption) | exact Nat.le_trans (Below.size (by assumption)) (by simp)))))
  have g0 : Hid (QB w0 w.heap.size p P.length c) := by
    rw [hw0]
    exact p1.out.below (show Below (w.alloc (.cells #[.slice p P.length c] 33)).heap.size (w.alloc (.cells #[.slice p P.length c] 33)) _ from (by repeat (first | exact Below.refl _ _ | assumption | refine Below.drew ?_ | refine below_drewN ?_ _ | refine Below.alloc' ?_ _ | (refine Below.setCell ?_ (by first | omega | (simp; done) | (simp; omega) | exact Below.size (by assumption) | exact Nat.le_trans (Below.size (by assumption)) (by simp)) _) | (refine Below.via' ?_ (by assumption)) | (refine Below.alloc ?_ (by first | omega | (simp; done) | (simp; omega) | exact Below.size (by assumption) | exact Nat.le_trans (Below.size (by assumption)) (by simp)) _) | (refine Below.via ?_ (by assumption) (by first | omega | (simp; done) | (simp; omega) | exact Below.size (by assumption) | exact Nat.le_trans (Below.size (by assumption)) (by simp))))))
  have t0 : Hid (TQ w0 (w.heap.size + 1) l x F.length c2 z W.length c3 m) := by
    have h0 := p2.out
    rw [World.size_alloc, ← hw0] at h0
    exact h0
  have z0 : w0.heap.size = w.heap.size + 1 + 1 := by rw [hw0]; simp
  clear p1 p2
  go_enter Tryd.func30, Tryd.ntmps30
  go_wp2_with fail
  rw [← hw0]
  replace hw0 := Lib.hid hw0
  replace z0 := Lib.hid z0
  refine (sCAt_x p y x z _ _ _ _ P S l F W m i _ (hPh.out.below B0) (hSh.out.below B0) ⟨hFh.out.below B0, hWh.out.below B0⟩).mono ?_
  rintro e w1 ⟨u, rfl, ho, hb1⟩
  have B1 : Below w.heap.size w w1 := Below.via' B0 hb1
  have g1 := Lib.hid (g0.out.below hb1)
  have t1 := Lib.hid (t0.out.below hb1)
  obtain ⟨ka1, kb1, kc1⟩ := g1.out
  obtain ⟨ta1, tb1, tc1, td1, te1⟩ := t1.out
  try clear ka0 kb0 kc0 ta0 tb0 tc0 td0 te0
  clear hb1
  obtain ⟨xv, nv, rfl, -, -⟩ := (OwR.of ho).form
  have hVr := Lib.hid (Rd.of_own ho)
  have hs1 := B1.size
  clear ho
  have k5 : (⟨#[97, 114, 101, 97, 32]⟩ : ByteArray).size = 5 := rfl
  have hnz := numZ_2 harea.1 (by omega)
  have a1 : ¬ 9223372036854775807 < (⟨#[97, 114, 101, 97, 32]⟩ : ByteArray).size + (numZ (tcaA P S l F W m i)).size := by rw [k5]; omega
  have a1' : ¬ 9223372036854775807 < 5 + (numZ (tcaA P S l F W m i)).size := by omega
  clear k5
  go_wp2_with fail
  refine (l1Num_any 30 _ _ harea.1 (by omega) (by omega)).mono ?_
  rintro e w2 ⟨rfl, hb2⟩
  have hb12 := Lib.hid hb2
  have B2 : Below w.heap.size w w2 := Below.via' B1 hb2
  have g2 := Lib.hid (g1.out.below hb2)
  have t2 := Lib.hid (t1.out.below hb2)
  obtain ⟨ka2, kb2, kc2⟩ := g2.out
  obtain ⟨ta2, tb2, tc2, td2, te2⟩ := t2.out
  try clear ka1 kb1 kc1 ta1 tb1 tc1 td1 te1
  clear hb2
  go_upto_region 3 with fail
  rw [← hL0.out]
  go_wp2
  have hVr2 := Lib.hid (hVr.out.below hb12.out)
  go_loopw [12, 30] (fun q c wr => ∃ k : Nat, k ≤ F.length ∧ c = .int .i64 k ∧ q = .string (L k) ∧ Below w2.heap.size w2 wr) (fun _ c _ => F.length - (intOf c).toNat)
  case atStart => exact ⟨0, by omega, by go_num, rfl, Below.refl _ _⟩
  case round =>
    obtain ⟨k, hk, rfl, rfl, hb⟩ := hrel
    have hBr := Below.via' B2 hb
    by_cases hlt : k < F.length
    · obtain ⟨b1, o1, i0, hy1, hb1, hFk, hc0⟩ := (hFh.out.below hBr).2.2.int hlt
      subst hy1
      have hrb := rsB_bd hth.out.r hFk
      obtain ⟨j, rfl⟩ := Int.eq_ofNat_of_zero_le hrb.1
      have hjS : j < S.length := by omega
      obtain ⟨b2, o2, nm, lv, hy2, hb2, hSj, hc1, hc2⟩ := (hSh.out.rd.below hBr).var (i := j) hjS
      subst hy2
      have hTk : (tbS S F)[k]? = some (nm, lv) := tbS_at hFk (by rw [Int.toNat_natCast]; exact hSj)
      obtain ⟨v, hvk, v0, v1⟩ := hvals.out.2 k nm lv hTk
      have hlk := (List.getElem?_eq_some_iff.1 hvk).1
      obtain ⟨b3, o3, v', hy3, hb3, hvk2, hc3⟩ := (hVr2.out.below hb).int hlk
      subst hy3
      obtain rfl := Option.some.inj (hvk2.symm.trans hvk)
      have hns := tbS_nm hth.out hTk
      have hnx := Lib.hid (hLs.out k nm lv _ hTk hvk)
      have hos := hLz.out k hk
      have hnzv := numZ_2 v0 (by omega)
      have hk' : (k : Int) < (F.length : Int) := by omega
      have hk2 : (k : Int) < ((tcaL P S l F W m i).length : Int) := by omega
      have hk0 : (0 : Int) ≤ (k : Int) := by omega
      have hj' : (j : Int) < (S.length : Int) := by omega
      have hj0 : (0 : Int) ≤ (j : Int) := by omega
      have e1 : (⟨#[32]⟩ : ByteArray).size = 1 := rfl
      have e2 : (⟨#[61]⟩ : ByteArray).size = 1 := rfl
      have s1 : ¬ 9223372036854775807 < (⟨#[32]⟩ : ByteArray).size + nm.size := by rw [e1]; omega
      have s1' : ¬ 9223372036854775807 < 1 + nm.size := by omega
      have s2 : ¬ 9223372036854775807 < (⟨#[32]⟩ ++ nm : ByteArray).size + (⟨#[61]⟩ : ByteArray).size := by rw [ByteArray.size_append, e1, e2]; omega
      have s2' : ¬ 9223372036854775807 < 1 + nm.size + 1 := by omega
      have s3 : ¬ 9223372036854775807 < ((⟨#[32]⟩ ++ nm) ++ ⟨#[61]⟩ : ByteArray).size + (numZ v').size := by simp only [ByteArray.size_append, e1, e2]; omega
      have s3' : ¬ 9223372036854775807 < 1 + nm.size + 1 + (numZ v').size := by omega
      have s4 : ¬ 9223372036854775807 < (L k).size + (((⟨#[32]⟩ ++ nm) ++ ⟨#[61]⟩) ++ numZ v' : ByteArray).size := by simp only [ByteArray.size_append, e1, e2]; omega
      have s4' : ¬ 9223372036854775807 < (L k).size + (1 + nm.size + 1 + (numZ v').size) := by omega
      replace hFk := Lib.hid hFk
      replace hSj := Lib.hid hSj
      replace hTk := Lib.hid hTk
      replace hvk := Lib.hid hvk
      replace hvk2 := Lib.hid hvk2
      clear e1 e2
      go_upto_region 6 with fail
      refine wp_region_held_drew (S := fun X => Below wr.heap.size wr X) (by kernel_rfl) (Below.drew (Below.refl _ _)) (fun hH => ?_)
      refine wpAnyH_take (i := 0) (v := ?_) rfl (by kernel_rfl) (by kernel_rfl) (by kernel_rfl) (fun _ _ _ h => h) (Or.inl ⟨by rfl, ?_⟩) (by assumption) ?_; rotate_left; · (intro wz hz; (skip); clear hz; go_simp; try with_reducible rfl); (try simp only [Act.put, List.getElem_toArray, List.getElem_cons_succ, List.getElem_cons_zero, List.setIfInBounds_toArray, List.set_cons_zero, List.set_cons_succ])
      refine wpAnyH_take (i := 1) (v := ?_) rfl (by kernel_rfl) (by kernel_rfl) (by kernel_rfl) (fun _ _ _ h => h) (Or.inl ⟨by rfl, ?_⟩) (by assumption) ?_; rotate_left; · (intro wz hz; (skip); clear hz; go_simp; try with_reducible rfl); (try simp only [Act.put, List.getElem_toArray, List.getElem_cons_succ, List.getElem_cons_zero, List.setIfInBounds_toArray, List.set_cons_zero, List.set_cons_succ])
      refine wpAnyH_take (i := 2) (v := ?_) rfl (by kernel_rfl) (by kernel_rfl) (by kernel_rfl) (fun _ _ _ h => h) (Or.inl ⟨by rfl, ?_⟩) (by assumption) ?_; rotate_left; · (intro wz hz; (skip); clear hz; go_simp; try with_reducible rfl); (try simp only [Act.put, List.getElem_toArray, List.getElem_cons_succ, List.getElem_cons_zero, List.setIfInBounds_toArray, List.set_cons_zero, List.set_cons_succ])
      refine wpAnyH_take (i := 3) (v := ?_) rfl (by kernel_rfl) (by kernel_rfl) (by kernel_rfl) (fun _ _ _ h => h) (Or.inl ⟨by rfl, ?_⟩) (by assumption) ?_; rotate_left; · (intro wz hz; (skip); clear hz; go_simp; try with_reducible rfl); (try simp only [Act.put, List.getElem_toArray, List.getElem_cons_succ, List.getElem_cons_zero, List.setIfInBounds_toArray, List.set_cons_zero, List.set_cons_succ])
      refine wpAnyH_take (i := 4) (v := ?_) rfl (by kernel_rfl) (by kernel_rfl) (by kernel_rfl) (fun _ _ _ h => h) (Or.inl ⟨by rfl, ?_⟩) (by assumption) ?_; rotate_left; · (intro wz hz; (skip); clear hz; go_simp; try with_reducible rfl); (try simp only [Act.put, List.getElem_toArray, List.getElem_cons_succ, List.getElem_cons_zero, List.setIfInBounds_toArray, List.set_cons_zero, List.set_cons_succ])
      refine wpAnyH_take (i := 5) (v := ?_) rfl (by kernel_rfl) (by kernel_rfl) (by kernel_rfl) (fun _ _ _ h => h) (Or.inl ⟨by rfl, ?_⟩) (by assumption) ?_; rotate_left; · (intro wz hz; (have f0 := (hz.cell (p := ⟨b2, o2 + j * 2, none⟩) hb2).trans hc1; have f1 := (hz.cell (p := ⟨b3, o3 + k, none⟩) hb3).trans hc3); clear hz; go_simp; try with_reducible rfl); (try simp only [Act.put, List.getElem_toArray, List.getElem_cons_succ, List.getElem_cons_zero, List.setIfInBounds_toArray, List.set_cons_zero, List.set_cons_succ])
      refine wpAnyH_take (i := 6) (v := ?_) rfl (by kernel_rfl) (by kernel_rfl) (by kernel_rfl) (fun _ _ _ h => h) (Or.inl ⟨by rfl, ?_⟩) (by assumption) ?_; rotate_left; · (intro wz hz; (skip); clear hz; go_simp; try with_reducible rfl); (try simp only [Act.put, List.getElem_toArray, List.getElem_cons_succ, List.getElem_cons_zero, List.setIfInBounds_toArray, List.set_cons_zero, List.set_cons_succ])
      refine wpAnyH_take (i := 7) (v := ?_) rfl (by kernel_rfl) (by kernel_rfl) (by kernel_rfl) (fun _ _ _ h => h) (Or.inl ⟨by rfl, ?_⟩) (by assumption) ?_; rotate_left; · (intro wz hz; (skip); clear hz; go_simp; try with_reducible rfl); (try simp only [Act.put, List.getElem_toArray, List.getElem_cons_succ, List.getElem_cons_zero, List.setIfInBounds_toArray, List.set_cons_zero, List.set_cons_succ])
      refine wpAnyH_take (i := 8) (v := ?_) rfl (by kernel_rfl) (by kernel_rfl) (by kernel_rfl) (fun _ _ _ h => h) (Or.inl ⟨by rfl, ?_⟩) (by assumption) ?_; rotate_left; · (intro wz hz; (skip); clear hz; go_simp; try with_reducible rfl); (try simp only [Act.put, List.getElem_toArray, List.getElem_cons_succ, List.getElem_cons_zero, List.setIfInBounds_toArray, List.set_cons_zero, List.set_cons_succ])
      refine wpAnyH_take (i := 9) (v := ?_) rfl (by kernel_rfl) (by kernel_rfl) (by kernel_rfl) (fun _ _ _ h => h) (Or.inl ⟨by rfl, ?_⟩) (by assumption) ?_; rotate_left; · (intro wz hz; (skip); clear hz; go_simp; try with_reducible rfl); (try simp only [Act.put, List.getElem_toArray, List.getElem_cons_succ, List.getElem_cons_zero, List.setIfInBounds_toArray, List.set_cons_zero, List.set_cons_succ])
      refine wpAnyH_take (i := 10) (v := ?_) rfl (by kernel_rfl) (by kernel_rfl) (by kernel_rfl) (fun _ _ _ h => h) (Or.inl ⟨by rfl, ?_⟩) (by assumption) ?_; rotate_left; · (intro wz hz; (skip); clear hz; go_simp; try with_reducible rfl); (try simp only [Act.put, List.getElem_toArray, List.getElem_cons_succ, List.getElem_cons_zero, List.setIfInBounds_toArray, List.set_cons_zero, List.set_cons_succ])
      refine wpAnyH_take (i := 11) (v := ?_) rfl (by kernel_rfl) (by kernel_rfl) (by kernel_rfl) (fun _ _ _ h => h) (Or.inl ⟨by rfl, ?_⟩) (by assumption) ?_; rotate_left; · (intro wz hz; (have f0 := (hz.cell (p := ⟨b2, o2 + j * 2, none⟩) hb2).trans hc1; have f1 := (hz.cell (p := ⟨b3, o3 + k, none⟩) hb3).trans hc3); clear hz; go_simp; try with_reducible rfl); (try simp only [Act.put, List.getElem_toArray, List.getElem_cons_succ, List.getElem_cons_zero, List.setIfInBounds_toArray, List.set_cons_zero, List.set_cons_succ])
      refine wpAnyH_ready (rs := [12]) (by kernel_rfl) (by simp) (AllReadyH.cons rfl (fun K hK => ?_) AllReadyH.nil); go_simp
      refine (l1Num_any 8 v' _ v0 (by omega) (by omega)).mono ?_
      rintro e w7 ⟨rfl, hb7⟩
      have h7 := Below.via' hH hb7
      refine hK.out _ _ h7 (fun hS7 => ?_)
      clear hK K
      (try simp only [Act.put, List.getElem_toArray, List.getElem_cons_succ, List.getElem_cons_zero, List.setIfInBounds_toArray, List.set_cons_zero, List.set_cons_succ])
      refine wpAnyH_take (i := 13) (v := ?_) rfl (by kernel_rfl) (by kernel_rfl) (by kernel_rfl) (fun _ _ _ h => h) (Or.inl ⟨by rfl, ?_⟩) (by assumption) ?_; rotate_left; · (intro wz hz; (skip); clear hz; go_simp; try with_reducible rfl); (try simp only [Act.put, List.getElem_toArray, List.getElem_cons_succ, List.getElem_cons_zero, List.setIfInBounds_toArray, List.set_cons_zero, List.set_cons_succ])
      refine wpAnyH_take (i := 14) (v := ?_) rfl (by kernel_rfl) (by kernel_rfl) (by kernel_rfl) (fun _ _ _ h => h) (Or.inl ⟨by rfl, ?_⟩) (by assumption) ?_; rotate_left; · (intro wz hz; (skip); clear hz; go_simp; try with_reducible rfl); (try simp only [Act.put, List.getElem_toArray, List.getElem_cons_succ, List.getElem_cons_zero, List.setIfInBounds_toArray, List.set_cons_zero, List.set_cons_succ])
      refine wpAnyH_ready (rs := [15]) (by kernel_rfl) (by simp) (AllReadyH.cons rfl (fun K hK => ?_) AllReadyH.nil); go_simp
      refine hK.out _ _ h7 (fun _ => ?_)
      clear hK K
      (try simp only [Act.put, List.getElem_toArray, List.getElem_cons_succ, List.getElem_cons_zero, List.setIfInBounds_toArray, List.set_cons_zero, List.set_cons_succ])
      refine wpAnyH_done (by kernel_rfl) ?_ _
      go_wp2
      go_roundw
      case rel => exact ⟨k + 1, by omega, by go_num, by rw [hnx.out], Below.via' hb h7⟩
      case measure => simp [intOf]; omega
    · have hij : k = F.length := by omega
      have hv := Lib.hid (show L k = ctX P S l F W m i by rw [hij]; exact hLx.out.symm)
      have hk' : ¬ (k : Int) < (F.length : Int) := by omega
      replace hij := Lib.hid hij
      go_wp2
      go_ret
      exact ⟨by first | rfl | (rw [← hv.out]; rfl), hBr⟩
theorem ret_sbC {a b : ByteArray} {p q : Bool} (h : a = b) (k : p = q) : Ending.returned (.tuple #[.string a, .bool p]) = .returned (.tuple #[.string b, .bool q]) := by rw [h, k]
set_option maxHeartbeats 8000000 in
theorem sCT_x (p y x z : Option Addr) (c c1 c2 c3 : Nat) (P : List Int) (S : List (ByteArray × Int)) (l : Int) (F W : List Int) (m i : Int) (w : World) (hP : IIn w p P) (hS : SIn w y c1 S) (hT : TIn w x z F W) :
    Calls Tryd.prog 16 #[.agg #[.slice p P.length c], .slice y S.length c1, .agg #[.int .i64 l, .slice x F.length c2, .slice z W.length c3, .int .i64 m], .int .i64 i] w fun e w' => e = .returned (.tuple #[.string (cxR P S l F W m i), .bool (tcaB P S l F W m i)]) ∧ Below w.heap.size w w' := by
  have hPh := Lib.hid hP
  have hSh := Lib.hid hS
  have hFh := Lib.hid hT.1
  have hWh := Lib.hid hT.2
  clear hP hS hT
  have p1 := Lib.hid (QB.new w p P.length c 33)
  have p2 := Lib.hid (TQ.new (w.alloc (.cells #[.slice p P.length c] 33)) l x F.length c2 z W.length c3 m 37)
  obtain ⟨w0, hw0⟩ : ∃ w0, w0 = (w.alloc (.cells #[.slice p P.length c] 33)).alloc (.cells #[.int .i64 l, .slice x F.length c2, .slice z W.length c3, .int .i64 m] 37) := ⟨_, rfl⟩
  have B0 : Below w.heap.size w w0 := by rw [hw0]; exact (by repeat (first | exact Below.refl _ _ | assumption | refine Below.drew ?_ | refine below_drewN ?_ _ | refine Below.alloc' ?_ _ | (refine Below.setCell ?_ (by first | omega | (simp; done) | (simp; omega) | exact Below.size (by assumption) | exact Nat.le_trans (Below.size (by assumption)) (by simp)) _) | (refine Below.via' ?_ (by assumption)) | (refine Below.alloc ?_ (by first | omega | (simp; done) | (simp; omega) | exact Below.size (by assumption) | exact Nat.le_trans (Below.size (by assumption)) (by simp)) _) | (refine Below.via ?_ (by assumption) (by first | omega | (simp; done) | (simp; omega) | exact Below.size (by assumption) | exact Nat.le_trans (Below.size (by assumption)) (by simp)))))
  have g0 : Hid (QB w0 w.heap.size p P.length c) := by
    rw [hw0]
    exact p1.out.below (show Below (w.alloc (.cells #[.slice p P.length c] 33)).heap.size (w.alloc (.cells #[.slice p P.length c] 33)) _ from (by repeat (first | exact Below.refl _ _ | assumption | refine Below.drew ?_ | refine below_drewN ?_ _ | refine Below.alloc' ?_ _ | (refine Below.setCell ?_ (by first | omega | (simp; done) | (simp; omega) | exact Below.size (by assumption) | exact Nat.le_trans (Below.size (by assumption)) (by simp)) _) | (refine Below.via' ?_ (by assumption)) | (refine Below.alloc ?_ (by first | omega | (simp; done) | (simp; omega) | exact Below.size (by assumption) | exact Nat.le_trans (Below.size (by assumption)) (by simp)) _) | (refine Below.via ?_ (by assumption) (by first | omega | (simp; done) | (simp; omega) | exact Below.size (by assumption) | exact Nat.le_trans (Below.size (by assumption)) (by simp))))))
  have t0 : Hid (TQ w0 (w.heap.size + 1) l x F.length c2 z W.length c3 m) := by
    have h0 := p2.out
    rw [World.size_alloc, ← hw0] at h0
    exact h0
  have z0 : w0.heap.size = w.heap.size + 1 + 1 := by rw [hw0]; simp
  clear p1 p2
  go_enter Tryd.func16, Tryd.ntmps16
  go_wp2_with fail
  rw [← hw0]
  replace hw0 := Lib.hid hw0
  replace z0 := Lib.hid z0
  refine (uGood_any p y x z _ _ _ _ P S l m F W _ (hPh.out.below B0) (hSh.out.below B0) ⟨hFh.out.below B0, hWh.out.below B0⟩).mono ?_
  rintro e w1 ⟨rfl, hb1⟩
  have B1 : Below w.heap.size w w1 := Below.via' B0 hb1
  have g1 := Lib.hid (g0.out.below hb1)
  have t1 := Lib.hid (t0.out.below hb1)
  obtain ⟨ka1, kb1, kc1⟩ := g1.out
  obtain ⟨ta1, tb1, tc1, td1, te1⟩ := t1.out
  try clear ka0 kb0 kc0 ta0 tb0 tc0 td0 te0
  clear hb1
  cases htg : tgB P S l F W m
  · have hv := Lib.hid (tca_no1 (i := i) htg)
    have hv2 := Lib.hid (cxR_no hv.out)
    replace htg := Lib.hid htg
    go_wp2
    go_ret2
    exact ⟨ret_sbC hv2.out.symm hv.out.symm, B1⟩
  have htp := tg_iff.1 htg
  have hth := Lib.hid htp
  have hgh := Lib.hid htp.g
  have hsh := Lib.hid htp.s
  have hrh := Lib.hid htp.r
  have hc6 := htp.c
  have hc1 := tc_pos htp
  replace htg := Lib.hid htg
  clear htp
  have q1 : IntKind.i64.wrap (tcZ P S l F - 1) = tcZ P S l F - 1 := IntWalk.i64_in _ (by omega)
  go_wp2_with fail
  refine (uCount_any p y x z _ _ _ _ P S l m F W _ hgh.out hsh.out hrh.out (hPh.out.below B1) (hSh.out.below B1) (hFh.out.below B1)).mono ?_
  rintro e w5 ⟨rfl, hb5⟩
  have B5 : Below w.heap.size w w5 := Below.via' B1 hb5
  have g5 := Lib.hid (g1.out.below hb5)
  have t5 := Lib.hid (t1.out.below hb5)
  obtain ⟨ka5, kb5, kc5⟩ := g5.out
  obtain ⟨ta5, tb5, tc5, td5, te5⟩ := t5.out
  try clear ka1 kb1 kc1 ta1 tb1 tc1 td1 te1
  clear hb5
  go_wp2_with fail
  refine (l1In_any _ _ _ _).mono ?_
  rintro e w6 ⟨rfl, rfl⟩
  cases hin : inB i 0 (tcZ P S l F - 1)
  · have hv := Lib.hid (tca_no2 (W := W) (m := m) hin)
    have hv2 := Lib.hid (cxR_no hv.out)
    replace hin := Lib.hid hin
    go_wp2
    go_ret2
    exact ⟨ret_sbC hv2.out.symm hv.out.symm, B5⟩
  have hib := (inB_iff _ _ _).1 hin
  have hv : Hid (tcaB P S l F W m i = true) := by
    obtain ⟨k, a, -, -, -, -, -, hv1, -, -⟩ := tca_at hth.out hib.1 (by omega)
    exact hv1
  have hv2 := Lib.hid (cxR_yes hv.out)
  replace hin := Lib.hid hin
  go_wp2_with fail
  refine (nCell_any p y x z _ _ _ _ P S l F W m i _ hth.out hib.1 (by omega) (hPh.out.below B5) (hSh.out.below B5) ⟨hFh.out.below B5, hWh.out.below B5⟩).mono ?_
  rintro e w7 ⟨rfl, hb7⟩
  go_wp2
  go_ret2
  exact ⟨ret_sbC hv2.out.symm hv.out.symm, Below.via' B5 hb7⟩
set_option maxHeartbeats 8000000 in
theorem iCT_x (p y x z : Option Addr) (c c1 c2 c3 : Nat) (P : List Int) (S : List (ByteArray × Int)) (l : Int) (F W : List Int) (m i : Int) (w : World) (hP : IIn w p P) (hS : SIn w y c1 S) (hT : TIn w x z F W) :
    Calls Tryd.prog 17 #[.agg #[.slice p P.length c], .slice y S.length c1, .agg #[.int .i64 l, .slice x F.length c2, .slice z W.length c3, .int .i64 m], .int .i64 i] w fun e w' => e = .returned (.tuple #[.string (cxR P S l F W m i), .bool (tcaB P S l F W m i)]) ∧ Below w.heap.size w w' := by
  have hPh := Lib.hid hP
  have hSh := Lib.hid hS
  have hFh := Lib.hid hT.1
  have hWh := Lib.hid hT.2
  clear hP hS hT
  have p1 := Lib.hid (QB.new w p P.length c 33)
  have p2 := Lib.hid (TQ.new (w.alloc (.cells #[.slice p P.length c] 33)) l x F.length c2 z W.length c3 m 37)
  obtain ⟨w0, hw0⟩ : ∃ w0, w0 = (w.alloc (.cells #[.slice p P.length c] 33)).alloc (.cells #[.int .i64 l, .slice x F.length c2, .slice z W.length c3, .int .i64 m] 37) := ⟨_, rfl⟩
  have B0 : Below w.heap.size w w0 := by rw [hw0]; exact (by repeat (first | exact Below.refl _ _ | assumption | refine Below.drew ?_ | refine below_drewN ?_ _ | refine Below.alloc' ?_ _ | (refine Below.setCell ?_ (by first | omega | (simp; done) | (simp; omega) | exact Below.size (by assumption) | exact Nat.le_trans (Below.size (by assumption)) (by simp)) _) | (refine Below.via' ?_ (by assumption)) | (refine Below.alloc ?_ (by first | omega | (simp; done) | (simp; omega) | exact Below.size (by assumption) | exact Nat.le_trans (Below.size (by assumption)) (by simp)) _) | (refine Below.via ?_ (by assumption) (by first | omega | (simp; done) | (simp; omega) | exact Below.size (by assumption) | exact Nat.le_trans (Below.size (by assumption)) (by simp)))))
  have g0 : Hid (QB w0 w.heap.size p P.length c) := by
    rw [hw0]
    exact p1.out.below (show Below (w.alloc (.cells #[.slice p P.length c] 33)).heap.size (w.alloc (.cells #[.slice p P.length c] 33)) _ from (by repeat (first | exact Below.refl _ _ | assumption | refine Below.drew ?_ | refine below_drewN ?_ _ | refine Below.alloc' ?_ _ | (refine Below.setCell ?_ (by first | omega | (simp; done) | (simp; omega) | exact Below.size (by assumption) | exact Nat.le_trans (Below.size (by assumption)) (by simp)) _) | (refine Below.via' ?_ (by assumption)) | (refine Below.alloc ?_ (by first | omega | (simp; done) | (simp; omega) | exact Below.size (by assumption) | exact Nat.le_trans (Below.size (by assumption)) (by simp)) _) | (refine Below.via ?_ (by assumption) (by first | omega | (simp; done) | (simp; omega) | exact Below.size (by assumption) | exact Nat.le_trans (Below.size (by assumption)) (by simp))))))
  have t0 : Hid (TQ w0 (w.heap.size + 1) l x F.length c2 z W.length c3 m) := by
    have h0 := p2.out
    rw [World.size_alloc, ← hw0] at h0
    exact h0
  have z0 : w0.heap.size = w.heap.size + 1 + 1 := by rw [hw0]; simp
  clear p1 p2
  go_enter Tryd.func17, Tryd.ntmps17
  go_wp2_with fail
  rw [← hw0]
  replace hw0 := Lib.hid hw0
  replace z0 := Lib.hid z0
  refine (gridOf_any p y x z _ _ _ _ P S l m F W _ (hPh.out.below B0) (hSh.out.below B0) ⟨hFh.out.below B0, hWh.out.below B0⟩).mono ?_
  rintro e w1 ⟨hb1, h1⟩
  have B1 : Below w.heap.size w w1 := Below.via' B0 hb1
  have g1 := Lib.hid (g0.out.below hb1)
  have t1 := Lib.hid (t0.out.below hb1)
  obtain ⟨ka1, kb1, kc1⟩ := g1.out
  obtain ⟨ta1, tb1, tc1, td1, te1⟩ := t1.out
  try clear ka0 kb0 kc0 ta0 tb0 tc0 td0 te0
  clear hb1
  rcases h1 with ⟨hno, rfl⟩ | ⟨htg, ga, ca, va, rfl, hA, hV, hvl⟩
  · have hv := Lib.hid (tca_no1 (i := i) (tg_no hno))
    have hv2 := Lib.hid (cxR_no hv.out)
    clear hno
    go_wp2
    go_ret2
    exact ⟨ret_sbC hv2.out.symm hv.out.symm, (by repeat (first | exact Below.refl _ _ | assumption | refine Below.drew ?_ | refine below_drewN ?_ _ | refine Below.alloc' ?_ _ | (refine Below.setCell ?_ (by first | omega | (simp; done) | (simp; omega) | exact Below.size (by assumption) | exact Nat.le_trans (Below.size (by assumption)) (by simp)) _) | (refine Below.via' ?_ (by assumption)) | (refine Below.alloc ?_ (by first | omega | (simp; done) | (simp; omega) | exact Below.size (by assumption) | exact Nat.le_trans (Below.size (by assumption)) (by simp)) _) | (refine Below.via ?_ (by assumption) (by first | omega | (simp; done) | (simp; omega) | exact Below.size (by assumption) | exact Nat.le_trans (Below.size (by assumption)) (by simp)))))⟩
  have hpt := Lib.hid (tbS_ok htg.s htg.r)
  have hth := Lib.hid htg
  have hl30 := (ge_len htg.g).2
  have hl := lvL_len P l
  have hAh := Lib.hid hA
  have hPt := Lib.hid hV
  clear htg hA hV
  obtain ⟨W2, hW2⟩ : ∃ W2, W2 = w1.alloc (.cells #[.slice p P.length c, .int .i64 l, .slice x F.length c2, .slice z W.length c3, .int .i64 m, .slice ga (lvL P l).length ca, .slice (some ⟨va, 0, none⟩) (tbS S F).length (tbS S F).length] 60) := ⟨_, rfl⟩
  have hG := g7_of_wb (Wb.new w1 60 #[.slice p P.length c, .int .i64 l, .slice x F.length c2, .slice z W.length c3, .int .i64 m, .slice ga (lvL P l).length ca, .slice (some ⟨va, 0, none⟩) (tbS S F).length (tbS S F).length])
  rw [← hW2] at hG
  have BW : Below w1.heap.size w1 W2 := by rw [hW2]; exact Below.alloc' (Below.refl _ _) _
  replace hG := Lib.hid hG
  replace hW2 := Lib.hid hW2
  by_cases hi0 : i < 0
  · have hv := Lib.hid (tca_no2 (P := P) (S := S) (l := l) (F := F) (W := W) (m := m) (i := i) ((inB_no _ _ _).2 (by omega)))
    have hv2 := Lib.hid (cxR_no hv.out)
    go_wp2
    go_ret2
    exact ⟨ret_sbC hv2.out.symm hv.out.symm, (by repeat (first | exact Below.refl _ _ | assumption | refine Below.drew ?_ | refine below_drewN ?_ _ | refine Below.alloc' ?_ _ | (refine Below.setCell ?_ (by first | omega | (simp; done) | (simp; omega) | exact Below.size (by assumption) | exact Nat.le_trans (Below.size (by assumption)) (by simp)) _) | (refine Below.via' ?_ (by assumption)) | (refine Below.alloc ?_ (by first | omega | (simp; done) | (simp; omega) | exact Below.size (by assumption) | exact Nat.le_trans (Below.size (by assumption)) (by simp)) _) | (refine Below.via ?_ (by assumption) (by first | omega | (simp; done) | (simp; omega) | exact Below.size (by assumption) | exact Nat.le_trans (Below.size (by assumption)) (by simp)))))⟩
  go_wp2_with fail
  rw [← hW2.out]
  refine (gcount_any _ _ _ _ _ _ _ _ _ _ _ _ _ _ _ (lvL P l) (tbS S F) _ hpt.out (by omega) (hPt.out.below BW)).mono ?_
  rintro e w2 ⟨rfl, hb2⟩
  have B12 := Below.via' BW hb2
  have B2 := Below.via' B1 B12
  obtain ⟨j0, j1, j2, j3, j4, j5, j6, jl⟩ := hG.out.below hb2
  by_cases hi1 : ((lvL P l).length : Int) * cnZ (tbS S F) ≤ i
  · have hv := Lib.hid (tca_no2 (P := P) (S := S) (l := l) (F := F) (W := W) (m := m) (i := i) ((inB_no _ _ _).2 (by unfold tcZ; omega)))
    have hv2 := Lib.hid (cxR_no hv.out)
    go_wp2
    go_ret2
    exact ⟨ret_sbC hv2.out.symm hv.out.symm, B2⟩
  have htb : Hid (tcaB P S l F W m i = true) := by
    obtain ⟨k, a, -, -, -, -, -, hv1, -, -⟩ := tca_at hth.out (show 0 ≤ i by omega) (show i < tcZ P S l F by unfold tcZ; omega)
    exact hv1
  have hv2 := Lib.hid (cxR_yes htb.out)
  go_wp2_with fail
  refine (textOf_any p x z ga va _ _ _ _ _ P S l F W m i _ hth.out (by omega) (by unfold tcZ; omega) (hAh.out.below B12) (hPt.out.below B12) (Nat.lt_of_lt_of_le hvl B12.size) (Nat.le_refl _)).mono ?_
  rintro e w5 ⟨rfl, hb5⟩
  go_wp2
  go_ret2
  exact ⟨ret_sbC hv2.out.symm htb.out.symm, Below.via' B2 hb5⟩
end Go.Proofs.YtgkaalonmkcclaaDoor
