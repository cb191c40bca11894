import Derived.Test.YtjbhmofaackjpaaPjD
namespace Go.Proofs.Ytjbhmofaackjpaa
open Go.RowKit
set_option maxRecDepth 100000

theorem own_apartE {w : World} {base e size n : Nat} {v : Value} {xs : List Value} (h : w.ownsRow base e size v n xs) {g : Nat} (hne : v.ownBlock ≠ some g) (o : Nat) (u : Value) : (w.setCell ⟨g, o, none⟩ u).ownsRow base e size v n xs :=
  h.kept (grown_setP w ⟨g, o, none⟩ u) (Or.inr hne)
theorem ird_grownE {w w' : World} {c b : Nat} {L : List Int} (h : IRd w (some ⟨c, 0, none⟩) L) (hg : w.grownBy w' (some b)) (hcb : c ≠ b) : IRd w' (some ⟨c, 0, none⟩) L := by
  obtain ⟨c', off, e, hc, hr⟩ := h
  injection e with e
  injection e with e1 e2
  subst e1 e2
  exact ⟨c, 0, rfl, Nat.lt_of_lt_of_le hc hg.size, fun i v hv => (World.cell?_of_block (hg.block c hc (fun q => hcb (by injection q)))).trans (hr i v hv)⟩
theorem ea_of {S : List (ByteArray × Int)} {E : List Int} (hs : schB S = true) (h : edB S E = true) : 1 ≤ E.length ∧ E.length ≤ 6 ∧ ∀ m ∈ E, -1 ≤ m ∧ m ≤ 256 := by
  have hl := ed_len h
  have h6 := schB_len hs
  refine ⟨by omega, by omega, fun m hm => ?_⟩
  obtain ⟨j, hj, e⟩ := List.getElem_of_mem hm
  obtain ⟨nm, lv, a, h1, h2, h3, h4, -, -, h5⟩ := ed_at hs h (i := j) (by omega)
  rw [List.getElem?_eq_getElem hj, e] at h2
  injection h2 with h2
  omega
set_option maxHeartbeats 8000000 in
theorem anyEdit_good (b : Nat) (x : Option Addr) (n cap k : Nat) (y : Option Addr) (cy : Nat) (S : List (ByteArray × Int)) (w : World) (hk : k + 300 ≤ 1000000000000) (hs : schB S = true) (hC : CurAt w b x n cap k) (hB : ByRd w x n) (hS : SIn w y cy S) (hSr : Rd w y (vC S)) (hyb : ∀ c off, y = some ⟨c, off, none⟩ → some c ≠ some b) :
    Calls Try.prog 46 #[.pointer (some ⟨b, 0, none⟩), .slice y S.length cy] w (EaPost b x n cap k 60 w) := by
  obtain ⟨i0, hi, hz0, hz1, hz2⟩ := info_parts Try.infoInt
  have hbs := hC.inside
  have hap := Lib.hid hC.apart
  have hC2 := Lib.hid hC
  have hB2 := Lib.hid hB
  have hS2 := Lib.hid hS
  have hSr2 := Lib.hid hSr
  have hy2 := Lib.hid hyb
  have q0 := Lib.hid (Wb.new w 61 #[.slice none 0 0])
  have g0 := Lib.hid (grown_alloc (grown_refl w (some b)) (.cells #[.slice none 0 0] 61))
  clear hC hB hS hSr hyb
  go_enter Try.func46, Try.ntmps46
  go_wp2_with fail
  refine (sGood_x _ _ S _ (hS2.out.below (by exact (by repeat (first | exact Below.refl _ _ | assumption | refine Below.drew ?_ | refine below_drewN ?_ _ | refine Below.alloc' ?_ _ | (refine Below.setCell ?_ (by first | omega | (simp; done) | (simp; omega) | exact Below.size (by assumption) | exact Nat.le_trans (Below.size (by assumption)) (by simp)) _) | (refine Below.via' ?_ (by assumption)) | (refine Below.alloc ?_ (by first | omega | (simp; done) | (simp; omega) | exact Below.size (by assumption) | exact Nat.le_trans (Below.size (by assumption)) (by simp)) _) | (refine Below.via ?_ (by assumption) (by first | omega | (simp; done) | (simp; omega) | exact Below.size (by assumption) | exact Nat.le_trans (Below.size (by assumption)) (by simp)))))))).mono ?_
  rintro e w1 ⟨rfl, hb1⟩
  rw [hs]
  have hsh := Lib.hid hs
  have q1 := Lib.hid (q0.out.kept hb1)
  have g1 := Lib.hid (grown_trans g0.out (grown_of_below hb1 _))
  have c1 := Lib.hid ((hC2.out.alloc (.cells #[.slice none 0 0] 61)).far (r := none) ⟨hb1.os, hb1.tape, hb1.output, hb1.size, fun k hk _ => hb1.block k hk⟩ (by intro j hj; cases hj))
  have hin := q1.out.inside
  clear hb1 hs
  go_wp2_with fail
  refine (edit_any b x n cap k y cy S w1 (by omega) hsh.out c1.out (hB2.out.grown g1.out hap.out) (hSr2.out.keep g1.out hy2.out) hy2.out).mono ?_
  rintro e w2 ⟨E, u, c, k2, rfl, hE, ka, kb, ho2, hC3, hg2⟩
  obtain ⟨e1, e2, e3⟩ := ea_of hsh.out hE
  have hs2 := hg2.size
  have G2 := Lib.hid (grown_trans g1.out hg2)
  have V2 := Lib.hid (Wb.new w2 61 #[.slice u E.length c])
  have R2 := Lib.hid ((wb_grownD q1.out hg2 (by intro e; injection e with e; omega)).kept ((Below.refl _ _).alloc (Nat.le_refl _) (.cells #[.slice u E.length c] 61)))
  have hblk := Lib.hid (OwR.of ho2).2
  have O2 := Lib.hid (ho2.alloc (.cells #[.slice u E.length c] 61))
  have C2 := Lib.hid (hC3.alloc (.cells #[.slice u E.length c] 61))
  have GA := Lib.hid (grown_alloc G2.out (.cells #[.slice u E.length c] 61))
  replace e3 := Lib.hid e3
  clear ho2 hC3 hg2 hE c1 q1 q0 g0
  go_wp2_with fail
  refine (pick_any b x n cap k2 24 _ (by omega) (by omega) (by omega) C2.out (hB2.out.grown GA.out hap.out)).mono ?_
  rintro e w3 ⟨m, k3, rfl, m0, m1, kc, kd, hC4, hg3⟩
  have hs3 := hg3.size
  rw [World.size_alloc] at hs3
  have G3 := Lib.hid (grown_trans GA.out hg3)
  have O3 := Lib.hid (own_cur2 O2.out (by omega) hg3)
  have V3 := Lib.hid (wb_grownD V2.out hg3 (by intro e; injection e with e; omega))
  have R3 := Lib.hid (wb_grownD R2.out hg3 (by intro e; injection e with e; omega))
  replace hC4 := Lib.hid hC4
  have v0 := V3.out.read 0
  have vf := V3.out.free 0
  have r0 := R3.out.read 0
  have rf := R3.out.free 0
  clear hg3 O2 V2 R2 C2 GA G2
  by_cases hm0 : m = 0
  · subst hm0
    have hCd : Hid (CurAt w3.drew b x n cap k3) := hC4.out
    have hBd : Hid (ByRd w3.drew x n) := ByRd.drewW (hB2.out.grown G3.out hap.out)
    have hbw := hC4.out.inside
    have hCe : Hid (CurAt (w3.alloc (.cells #[.int .i64 0, .int .i64 (-1), .int .i64 256, .int .i64 4] 3)).drew b x n cap k3) := hC4.out.alloc (.cells #[.int .i64 0, .int .i64 (-1), .int .i64 256, .int .i64 4] 3)
    have hBe : Hid (ByRd (w3.alloc (.cells #[.int .i64 0, .int .i64 (-1), .int .i64 256, .int .i64 4] 3)).drew x n) := ByRd.drewW ((hB2.out.grown G3.out hap.out).alloc _)
    obtain ⟨g, cg, hv⟩ := own_some2 O3.out (by omega)
    injection hv with hv1 hv2 hv3
    subst hv1 hv3
    have hgb := hblk.out g rfl
    have hl0 : (0 : Int) < (E.length : Int) := by omega
    go_wp2_with fail
    go_region_held3 (fun w' => w'.cell? ⟨w2.heap.size, 0, none⟩ = some (.slice (some ⟨g, 0, none⟩) E.length c)) (first | exact v0 | exact V4.out.read 0 | exact V5.out.read 0 | exact (V3.out.kept ((Below.refl _ _).alloc (Nat.le_refl _) _)).read 0 | exact (V4.out.kept ((Below.refl _ _).alloc (Nat.le_refl _) _)).read 0 | exact (V5.out.far ⟨g, j, none⟩ (by show w2.heap.size ≠ g; omega) (.int .i64 q)).read 0 | fail) (first
      | (go_simp; go_at_call 43; refine (pick_any b x n cap k3 E.length w3.drew (by omega) (by omega) (by omega) hCd.out hBd.out).mono ?_; rintro e w4 ⟨m4, k4, rfl, p0, p1, ke, kf, hC5, hg4⟩; (obtain ⟨j, rfl⟩ := Int.eq_ofNat_of_zero_le p0); (have hg4 := drew_back hg4); (have hs4 := hg4.size); (have G4 := Lib.hid (grown_trans G3.out hg4)); (have O4 := Lib.hid (own_cur2 O3.out (by omega) hg4)); (have V4 := Lib.hid (wb_grownD V3.out hg4 (by intro e; injection e with e; omega))); (have R4 := Lib.hid (wb_grownD R3.out hg4 (by intro e; injection e with e; omega))); (have hC5 := Lib.hid hC5); (have hB5 := Lib.hid (hB2.out.grown G4.out hap.out)); (have hg4 := Lib.hid hg4))
      | (go_simp; go_at_call 43; refine (pick_any b x n cap k3 E.length (w3.alloc (.cells #[.int .i64 0, .int .i64 (-1), .int .i64 256, .int .i64 4] 3)).drew (by omega) (by omega) (by omega) hCe.out hBe.out).mono ?_; rintro e w4 ⟨m4, k4, rfl, p0, p1, ke, kf, hC5, hg4⟩; (obtain ⟨j, rfl⟩ := Int.eq_ofNat_of_zero_le p0); (have hI4 := Lib.hid (ird_grownE (IRd.lit w3 [0, -1, 256, 4] 3) (drew_back hg4) (show w3.heap.size ≠ b by omega))); (have hg4 := grown_trans (grown_alloc (grown_refl w3 (some b)) _) (drew_back hg4)); (have hs4 := hg4.size); (have G4 := Lib.hid (grown_trans G3.out hg4)); (have O4 := Lib.hid (own_cur2 O3.out (by omega) hg4)); (have V4 := Lib.hid (wb_grownD V3.out hg4 (by intro e; injection e with e; omega))); (have R4 := Lib.hid (wb_grownD R3.out hg4 (by intro e; injection e with e; omega))); (have hC5 := Lib.hid hC5); (have hB5 := Lib.hid (hB2.out.grown G4.out hap.out)); (have hg4 := Lib.hid hg4))
      | ((have hI5 := hI4); go_simp; go_at_call 44; refine (among_any b x n cap k4 w3.heap.size 4 [0, -1, 256, 4] w4 (by omega) (by simp) (by simp) (by omega) hI4.out hC5.out hB5.out).mono ?_; rintro e w5 ⟨q, k5, rfl, hmem, kg, kh, hC6, hg5⟩; (have hq : -1 ≤ q ∧ q ≤ 256 := by (simp at hmem; omega)); clear hmem; (have hg5' := hg5); (have hs5 := hg5'.size); (have G5 := Lib.hid (grown_trans G4.out hg5')); (have O5 := Lib.hid (own_cur2 O4.out (by omega) hg5')); (have V5 := Lib.hid (wb_grownD V4.out hg5' (by intro e; injection e with e; omega))); (have R5 := Lib.hid (wb_grownD R4.out hg5' (by intro e; injection e with e; omega))); (have hC6 := Lib.hid hC6); (obtain ⟨uu, hu, cc0⟩ := own_cell O5.out (j := j) (by omega)); (have cc1 := O5.out.frozenAt j); (have hu := Lib.hid hu); (have vv0 := V5.out.read 0); (have vvf := V5.out.free 0); (have rr0 := R5.out.read 0); (have rrf := R5.out.free 0); (have hgin := own_lt O5.out); clear hg5 hg5')
      | (go_simp; go_at_call 44; refine (among_any b x n cap k4 w4.heap.size 4 [0, -1, 256, 4] (w4.alloc (.cells #[.int .i64 0, .int .i64 (-1), .int .i64 256, .int .i64 4] 3)) (by omega) (by simp) (by simp) (by omega) (IRd.lit w4 [0, -1, 256, 4] 3) (hC5.out.alloc _) (hB5.out.alloc _)).mono ?_; rintro e w5 ⟨q, k5, rfl, hmem, kg, kh, hC6, hg5⟩; (have hq : -1 ≤ q ∧ q ≤ 256 := by (simp at hmem; omega)); clear hmem; (have hg5' := grown_trans (grown_alloc (grown_refl w4 (some b)) _) hg5); (have hs5 := hg5'.size); (have G5 := Lib.hid (grown_trans G4.out hg5')); (have O5 := Lib.hid (own_cur2 O4.out (by omega) hg5')); (have V5 := Lib.hid (wb_grownD V4.out hg5' (by intro e; injection e with e; omega))); (have R5 := Lib.hid (wb_grownD R4.out hg5' (by intro e; injection e with e; omega))); (have hC6 := Lib.hid hC6); (obtain ⟨uu, hu, cc0⟩ := own_cell O5.out (j := j) (by omega)); (have cc1 := O5.out.frozenAt j); (have hu := Lib.hid hu); (have vv0 := V5.out.read 0); (have vvf := V5.out.free 0); (have rr0 := R5.out.read 0); (have rrf := R5.out.free 0); (have hgin := own_lt O5.out); clear hg5 hg5'))
    all_goals
      have st := Lib.hid (O5.out.stored j (.int .i64 q))
      have hl5 : j < E.length := by omega
      have O6 := Lib.hid (show (w5.setCell ⟨g, j, none⟩ (.int .i64 q)).ownsRow w1.heap.size 3 1 (.slice (some ⟨g, 0, none⟩) E.length c) E.length (iC (E.set j q)) by have h0 := st.out.1; unfold iC at h0 ⊢; rw [List.map_set]; exact h0)
      have R6 := Lib.hid (R5.out.far ⟨g, j, none⟩ (by show w.heap.size ≠ g; omega) (.int .i64 q))
      have hqs : Hid (∀ z ∈ E.set j q, -1 ≤ z ∧ z ≤ 256) := fun z hz => by
        rcases List.mem_or_eq_of_mem_set hz with h | h
        · exact e3.out z h
        · rw [h]; exact hq
      have r6 := R6.out.read 0
      have rf6 := R6.out.free 0
      have C6 := Lib.hid (CurAt.far hC6.out (grown_setP _ ⟨g, j, none⟩ (.int .i64 q)) (by intro i hi; injection hi with hi; subst hi; show b < g; omega))
      have G6 := Lib.hid (grown_far G5.out (grown_setP _ ⟨g, j, none⟩ (.int .i64 q)) (by intro i hi; injection hi with hi; subst hi; show w.heap.size ≤ g; omega))
      have hle : (E.set j q).length = E.length := by simp
      clear vv0 vvf rr0 rrf cc0 cc1 v0 vf r0 rf
      go_wp2
      refine bodyPost_ret (v := .agg #[.slice (some ⟨g, 0, none⟩) E.length c]) (by simp [results, Try.results46, go_sem, ((R6.out.put 0 (.slice (some ⟨g, 0, none⟩) E.length c)).read 0)]) rfl ?_
      refine ⟨E.set j q, some ⟨g, 0, none⟩, c, k5, by rw [hle], by omega, by omega, hqs.out, by omega, by omega, ?_, ?_, ?_⟩
      · rw [hle]
        exact own_more (ownsRow_setCell_below O6.out (by show w.heap.size < w1.heap.size; omega) _) (by omega)
      · exact CurAt.far C6.out (grown_setP _ ⟨w.heap.size, 0, none⟩ _) (by intro j hj; injection hj with hj; subst hj; exact hbs)
      · exact grown_far G6.out (grown_setP _ ⟨w.heap.size, 0, none⟩ _) (by intro j hj; injection hj with hj; subst hj; exact Nat.le_refl _)
  by_cases hm1 : m = 1
  · subst hm1
    have hlow := Lib.hid O3.out.lt
    go_wp2_with (at_builtin; go_loud (refine wpList_append_rd _ rfl (.tmp 32) (.tmp 33) 28 rfl w1.heap.size 3 i0 (.int .i64 0) 1 8 Try.underlying28 hi hz0 hz1 hz2 rfl (by decide) _ E.length (iC E) rfl (O3.out.alloc _) _ 1 1 rfl (Nat.le_refl _) (by intro h; cases h) (iC [1]) rfl (Rd.oneI_at _ _ _ _ (by simp)) (iC_one _) (by unfold maxLen; omega) (by omega) (by simp; omega) ?_); intro v5 w5 hown5 hgrow5 hwhere5; (obtain ⟨z5, c5, rfl, -, -⟩ := own_form hown5); (have G5 := Lib.hid (grown_far (grown_alloc G3.out _) hgrow5 (fun j hj => by have := (hlow.out j hj).1; omega))); (have C5 := Lib.hid ((hC4.out.alloc _).far hgrow5 (fun j hj => by have := (hlow.out j hj).1; omega))); (have V5 := Lib.hid (wb_grownD (V3.out.kept ((Below.refl _ _).alloc (Nat.le_refl _) _)) hgrow5 (fun e => by have := hblk.out _ e; omega))); (have R5 := Lib.hid (wb_grownD (R3.out.kept ((Below.refl _ _).alloc (Nat.le_refl _) _)) hgrow5 (fun e => by have := (hlow.out _ e).1; omega))); (have hs5 := G5.out.size); (have hown6h := Lib.hid (own_eq (n' := (E ++ [(1 : Int)]).length) hown5 (by simp) (iC_app _ _).symm)); (have w0 := V5.out.read 0); (have wf := V5.out.free 0); (have x0 := R5.out.read 0); (have xf := R5.out.free 0); (have hin5 := V5.out.inside); clear hgrow5 hown5 v0 vf r0 rf)
    have hnb5 : (Value.slice z5 (E.length + 1) c5).ownBlock ≠ some w2.heap.size := by
      rcases hwhere5 with h | h
      · intro e
        have := (hblk.out _ (h.symm.trans e)).2
        omega
      · intro e
        have := h.symm.trans e
        injection this with this
        simp at this
        omega
    have O6 := Lib.hid (own_apartE hown6h.out hnb5 0 (.slice z5 (E.length + 1) c5))
    have O7 := Lib.hid (own_farC O6.out ⟨w.heap.size, 0, none⟩ (show w.heap.size < w1.heap.size by omega) (.slice z5 (E.length + 1) c5))
    have z0 : ((w5.setCell ⟨w2.heap.size, 0, none⟩ (.slice z5 (E.length + 1) c5)).setCell ⟨w.heap.size, 0, none⟩ (.slice z5 (E.length + 1) c5)).cell? ⟨w.heap.size, 0, none⟩ = some (.slice z5 (E.length + 1) c5) := ((R5.out.far ⟨w2.heap.size, 0, none⟩ (by show w.heap.size ≠ w2.heap.size; omega) _).put 0 _).read 0
    have hle : (E ++ [(1 : Int)]).length = E.length + 1 := by simp
    refine bodyPost_ret (v := .agg #[.slice z5 (E.length + 1) c5]) (by simp [results, Try.results46, go_sem, z0]) rfl ?_
    refine ⟨E ++ [1], z5, c5, k3, by rw [hle], by omega, by omega, ?_, by omega, by omega, ?_, ?_, ?_⟩
    · intro q hq
      rcases List.mem_append.1 hq with hq | hq
      · exact e3.out q hq
      · rw [List.mem_singleton] at hq; subst hq; omega
    · have := own_more O7.out (show w.heap.size ≤ w1.heap.size by omega)
      rw [hle] at this ⊢
      exact this
    · exact CurAt.far (CurAt.far C5.out (grown_setP _ ⟨w2.heap.size, 0, none⟩ _) (by intro j hj; injection hj with hj; subst hj; show b < w2.heap.size; omega)) (grown_setP _ ⟨w.heap.size, 0, none⟩ _) (by intro j hj; injection hj with hj; subst hj; exact hbs)
    · exact grown_far (grown_far G5.out (grown_setP _ ⟨w2.heap.size, 0, none⟩ _) (by intro j hj; injection hj with hj; subst hj; show w.heap.size ≤ w2.heap.size; omega)) (grown_setP _ ⟨w.heap.size, 0, none⟩ _) (by intro j hj; injection hj with hj; subst hj; exact Nat.le_refl _)
  · go_wp2
    refine bodyPost_ret (v := .agg #[.slice u E.length c]) (by simp [results, Try.results46, go_sem, *]) rfl (⟨E, u, c, k3, rfl, e1, by omega, e3.out, by omega, by omega, ?_, ?_, ?_⟩)
    · exact own_more (ownsRow_setCell_below O3.out (by show w.heap.size < w1.heap.size; omega) _) (by omega)
    · exact CurAt.far hC4.out (grown_setP _ ⟨w.heap.size, 0, none⟩ _) (by intro j hj; injection hj with hj; subst hj; exact hbs)
    · exact grown_far G3.out (grown_setP _ ⟨w.heap.size, 0, none⟩ _) (by intro j hj; injection hj with hj; subst hj; exact Nat.le_refl _)
end Go.Proofs.Ytjbhmofaackjpaa
