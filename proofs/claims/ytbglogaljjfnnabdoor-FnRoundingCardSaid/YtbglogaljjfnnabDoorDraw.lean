/-
  The model's draws of fractions.
-/
import Derived.Test.YtbglogaljjfnnabDoorCur
import Derived.Test.YtbglogaljjfnnabDoorPow
namespace Go.Proofs.YtbglogaljjfnnabDoor
open Go.RowKit
set_option maxRecDepth 100000

theorem grown_of_below {w w' : World} (h : Below w.heap.size w w') (b : Nat) : w.grownBy w' (some b) := ⟨h.os, h.tape, h.output, h.size, fun j hj _ => h.block j hj⟩
theorem grown_alloc {w w' : World} {b : Nat} (h : w.grownBy w' (some b)) (o : Obj) : w.grownBy (w'.alloc o) (some b) :=
  grown_trans h (grown_of_below ((Below.refl _ _).alloc (Nat.le_refl _) o) b)
theorem grown_drewN {w w' : World} {b : Nat} (h : w.grownBy w' (some b)) (q : Nat) : w.grownBy (w'.drewN q) (some b) :=
  grown_trans h (grown_of_below (below_drewN (Below.refl _ _) q) b)
theorem grown_set {w w' : World} {b c : Nat} (h : w.grownBy w' (some b)) (hc : w.heap.size ≤ c) (o : Nat) (v : Value) : w.grownBy (w'.setCell ⟨c, o, none⟩ v) (some b) :=
  ⟨h.os, h.tape, h.output, Nat.le_trans h.size (by simp [World.setCell]), fun j hj hne => (Below.heap_setCell _ _ _ _ (by show j ≠ c; omega)).trans (h.block j hj hne)⟩
theorem CurAt.below {w w' : World} {b : Nat} {x : Option Addr} {n cap k : Nat} (h : CurAt w b x n cap k) (hb : Below w.heap.size w w') : CurAt w' b x n cap k := by
  obtain ⟨s, c0, c1, c2, f1, f2, hs, hne⟩ := h
  exact ⟨s, (hb.cell hs).trans c0, (hb.cell hs).trans c1, (hb.cell hs).trans c2, (hb.frozen hs).trans f1, (hb.frozen hs).trans f2, Nat.lt_of_lt_of_le hs hb.size, hne⟩
theorem CurAt.set {w : World} {b c : Nat} {x : Option Addr} {n cap k : Nat} (h : CurAt w b x n cap k) (hc : c ≠ b) (o : Nat) (v : Value) : CurAt (w.setCell ⟨c, o, none⟩ v) b x n cap k := by
  obtain ⟨s, c0, c1, c2, f1, f2, hs, hne⟩ := h
  refine ⟨s, ?_, ?_, ?_, ?_, ?_, ?_, hne⟩
  · rw [World.cell?_setCell_far _ _ _ _ hc, c0]
  · rw [World.cell?_setCell_far _ _ _ _ hc, c1]
  · rw [World.cell?_setCell_far _ _ _ _ hc, c2]
  · rw [World.frozen?_setCell, f1]
  · rw [World.frozen?_setCell, f2]
  · simpa [World.setCell] using hs
theorem CurAt.inside {w : World} {b : Nat} {x : Option Addr} {n cap k : Nat} (h : CurAt w b x n cap k) : b < w.heap.size := by
  obtain ⟨_, _, _, _, _, _, hs, _⟩ := h
  exact hs
theorem ByRd.below {w w' : World} {x : Option Addr} {n : Nat} (h : ByRd w x n) (hb : Below w.heap.size w w') : ByRd w' x n := by
  rcases h with h | ⟨c, off, e, hc, hr⟩
  · exact Or.inl h
  · refine Or.inr ⟨c, off, e, Nat.lt_of_lt_of_le hc hb.size, fun i hi => ?_⟩
    obtain ⟨v, v0, v1, hv⟩ := hr i hi
    exact ⟨v, v0, v1, (hb.cell hc).trans hv⟩
theorem Blk.grown {w w' : World} {g b : Nat} {x y : Value} (h : Blk w g x y) (hg : w.grownBy w' (some b)) (hne : g ≠ b) : Blk w' g x y := by
  obtain ⟨h1, h2, h3, h4, h5⟩ := h
  have e := hg.block g h5 (fun q => hne (by injection q))
  exact ⟨(World.cell?_of_block (a := ⟨g, 0, none⟩) e).trans h1, (World.cell?_of_block (a := ⟨g, 1, none⟩) e).trans h2, (World.frozen?_of_block (a := ⟨g, 0, none⟩) e).trans h3, (World.frozen?_of_block (a := ⟨g, 1, none⟩) e).trans h4, Nat.lt_of_lt_of_le h5 hg.size⟩

def FracPost (b : Nat) (x : Option Addr) (n cap k more : Nat) (w : World) (e : Ending) (w' : World) : Prop :=
  ∃ (u v : Int) (k' : Nat), e = .returned (.agg #[.int .i64 u, .int .i64 v]) ∧ k ≤ k' ∧ k' ≤ k + more ∧ CurAt w' b x n cap k' ∧ w.grownBy w' (some b)

set_option maxHeartbeats 1000000 in
theorem frac_any (b : Nat) (x : Option Addr) (n cap k : Nat) (w : World) (hk : k + 4 ≤ 1000000000000) (hC : CurAt w b x n cap k) (hB : ByRd w x n) :
    Calls Tryd.prog 48 #[.pointer (some ⟨b, 0, none⟩)] w (FracPost b x n cap k 4 w) := by
  have hbs := hC.inside
  have hC2 := Lib.hid hC
  have hB2 := Lib.hid hB
  clear hC hB
  have B0 := Lib.hid (show Blk (w.alloc (.cells #[.int .i64 0, .int .i64 0] 24)) w.heap.size (.int .i64 0) (.int .i64 0) from ⟨by go_simp, by go_simp, by go_simp, by go_simp, by simp⟩)
  have bw : Below w.heap.size w (w.alloc (.cells #[.int .i64 0, .int .i64 0] 24)) := (Below.refl _ _).alloc (Nat.le_refl _) _
  go_enter Tryd.func48, Tryd.ntmps48
  go_wp2_with fail
  refine (pick_any b x n cap k 41 _ (by omega) (by omega) (by omega) (hC2.out.below bw) (hB2.out.below bw)).mono ?_
  rintro e w1 ⟨v, k1, rfl, v0, v1, ka, kb, hC3, hg⟩
  have hB3 := Lib.hid ((hB2.out.below bw).grown hg hC2.out.apart)
  have hC3 := Lib.hid hC3
  go_wp2_with fail
  refine (pick_any b x n cap k1 12 _ (by omega) (by omega) (by omega) hC3.out hB3.out).mono ?_
  rintro e w2 ⟨u, k2, rfl, u0, u1, kc, kd, hC4, hg2⟩
  have hC4 := Lib.hid hC4
  go_wp2_with fail
  refine (fMake_x _ _ _ (by omega) (by omega) (by omega) (by omega)).mono ?_
  rintro e w3 ⟨rfl, hb3⟩
  have hR := ((B0.out.grown hg (by omega)).grown hg2 (by omega)).below hb3
  obtain ⟨s0, s1, s2, s3, s4⟩ := hR
  obtain ⟨hcl3, hfr3⟩ := bcell hb3
  go_wp2
  refine bodyPost_ret (v := .agg #[.int .i64 (mkN (v - 20) (1 + u)), .int .i64 (mkD (v - 20) (1 + u))]) (by simp [results, Tryd.results48, go_sem, *]) rfl ?_
  exact ⟨_, _, k2, rfl, by omega, by omega, (((hC4.out.below hb3).set (by omega) _ _).set (by omega) _ _).below ((Below.refl _ _).alloc (Nat.le_refl _) _), (by repeat (first | exact grown_refl _ _ | assumption | refine grown_drewN ?_ _ | refine grown_alloc ?_ _ | (refine grown_set ?_ (by first | omega | (simp; done) | (simp; omega)) _ _) | (refine grown_trans ?_ (by assumption)) | (refine grown_trans ?_ (grown_of_below (by assumption) _))))⟩
theorem IRd.lit (w : World) (L : List Int) (ty : Nat) : IRd (w.alloc (.cells (L.map (Value.int .i64)).toArray ty)) (some ⟨w.heap.size, 0, none⟩) L := by
  refine ⟨w.heap.size, 0, rfl, by simp, fun i v hi => ?_⟩
  rw [World.cell?_alloc_at _ _ _ _ rfl, Nat.zero_add, List.getElem?_toArray, List.getElem?_map, hi]
  rfl
theorem CurAt.alloc {w : World} {b : Nat} {x : Option Addr} {n cap k : Nat} (h : CurAt w b x n cap k) (o : Obj) : CurAt (w.alloc o) b x n cap k :=
  h.below ((Below.refl _ _).alloc (Nat.le_refl _) _)
theorem ByRd.alloc {w : World} {x : Option Addr} {n : Nat} (h : ByRd w x n) (o : Obj) : ByRd (w.alloc o) x n :=
  h.below ((Below.refl _ _).alloc (Nat.le_refl _) _)
set_option maxHeartbeats 1000000 in
theorem anyFrac_any (b : Nat) (x : Option Addr) (n cap k : Nat) (w : World) (hk : k + 8 ≤ 1000000000000) (hC : CurAt w b x n cap k) (hB : ByRd w x n) :
    Calls Tryd.prog 31 #[.pointer (some ⟨b, 0, none⟩)] w (FracPost b x n cap k 8 w) := by
  have hbs := hC.inside
  have hC2 := Lib.hid hC
  have hB2 := Lib.hid hB
  clear hC hB
  have B0 := Lib.hid (show Blk (w.alloc (.cells #[.int .i64 0, .int .i64 0] 24)) w.heap.size (.int .i64 0) (.int .i64 0) from ⟨by go_simp, by go_simp, by go_simp, by go_simp, by simp⟩)
  have bw : Below w.heap.size w (w.alloc (.cells #[.int .i64 0, .int .i64 0] 24)) := (Below.refl _ _).alloc (Nat.le_refl _) _
  go_enter Tryd.func31, Tryd.ntmps31
  go_wp2_with fail
  refine (pick_any b x n cap k 16 _ (by omega) (by omega) (by omega) (hC2.out.below bw) (hB2.out.below bw)).mono ?_
  rintro e w1 ⟨v, k1, rfl, v0, v1, ka, kb, hC3, hg⟩
  have hB3 := Lib.hid ((hB2.out.below bw).grown hg hC2.out.apart)
  have hC3 := Lib.hid hC3
  by_cases h0 : v = 0
  · subst h0
    go_wp2_with fail
    refine (among_any b x n cap k1 w1.heap.size _ [1000000000, -1000000000, 999999999, 1000000001] _ (by omega) (by simp) (by simp) (Nat.ne_of_gt hC3.out.inside) (IRd.lit w1 [1000000000, -1000000000, 999999999, 1000000001] 3) (hC3.out.alloc _) (hB3.out.alloc _)).mono ?_
    rintro e w2 ⟨p, k2, rfl, -, kc, kd, hC4, hg2⟩
    have hg2 := grown_trans (grown_alloc (grown_refl w1 (some b)) _) hg2
    have hB4 := Lib.hid (hB3.out.grown hg2 hC3.out.apart)
    have hC4 := Lib.hid hC4
    go_wp2_with fail
    refine (among_any b x n cap k2 w2.heap.size _ [1, 7, 999999999, 999999937] _ (by omega) (by simp) (by simp) (Nat.ne_of_gt hC4.out.inside) (IRd.lit w2 [1, 7, 999999999, 999999937] 3) (hC4.out.alloc _) (hB4.out.alloc _)).mono ?_
    rintro e w3 ⟨q, k3, rfl, -, ke, kf, hC5, hg3⟩
    have hg3 := grown_trans (grown_alloc (grown_refl w2 (some b)) _) hg3
    have hB5 := Lib.hid (hB4.out.grown hg3 hC4.out.apart)
    have hC5 := Lib.hid hC5
    have hR := ((B0.out.grown hg (by omega)).grown hg2 (by omega)).grown hg3 (by omega)
    obtain ⟨s0, s1, s2, s3, s4⟩ := hR
    go_wp2
    refine bodyPost_ret (v := .agg #[.int .i64 (p), .int .i64 (q)]) (by simp [results, Tryd.results31, go_sem, *]) rfl ?_
    exact ⟨_, _, k3, rfl, by omega, by omega, ((hC5.out.set (by omega) _ _).set (by omega) _ _), (by repeat (first | exact grown_refl _ _ | assumption | refine grown_drewN ?_ _ | refine grown_alloc ?_ _ | (refine grown_set ?_ (by first | omega | (simp; done) | (simp; omega)) _ _) | (refine grown_trans ?_ (by assumption)) | (refine grown_trans ?_ (grown_of_below (by assumption) _))))⟩
  by_cases h1 : v = 1
  · subst h1
    go_wp2_with fail
    refine (pick_any b x n cap k1 9 _ (by omega) (by omega) (by omega) hC3.out hB3.out).mono ?_
    rintro e w2 ⟨p, k2, rfl, p0, p1, kc, kd, hC4, hg2⟩
    have hB4 := Lib.hid (hB3.out.grown hg2 hC3.out.apart)
    have hC4 := Lib.hid hC4
    go_wp2_with fail
    refine (pick_any b x n cap k2 7 _ (by omega) (by omega) (by omega) hC4.out hB4.out).mono ?_
    rintro e w3 ⟨q, k3, rfl, q0, q1, ke, kf, hC5, hg3⟩
    have hC5 := Lib.hid hC5
    have hR := ((B0.out.grown hg (by omega)).grown hg2 (by omega)).grown hg3 (by omega)
    obtain ⟨s0, s1, s2, s3, s4⟩ := hR
    go_wp2
    refine bodyPost_ret (v := .agg #[.int .i64 (p - 4), .int .i64 (q - 1)]) (by simp [results, Tryd.results31, go_sem, *]) rfl ?_
    exact ⟨_, _, k3, rfl, by omega, by omega, ((hC5.out.set (by omega) _ _).set (by omega) _ _), (by repeat (first | exact grown_refl _ _ | assumption | refine grown_drewN ?_ _ | refine grown_alloc ?_ _ | (refine grown_set ?_ (by first | omega | (simp; done) | (simp; omega)) _ _) | (refine grown_trans ?_ (by assumption)) | (refine grown_trans ?_ (grown_of_below (by assumption) _))))⟩
  by_cases h2 : v = 2
  · subst h2
    go_wp2_with fail
    refine (pick_any b x n cap k1 3 _ (by omega) (by omega) (by omega) hC3.out hB3.out).mono ?_
    rintro e w2 ⟨p, k2, rfl, p0, p1, kc, kd, hC4, hg2⟩
    have hB4 := Lib.hid (hB3.out.grown hg2 hC3.out.apart)
    have hC4 := Lib.hid hC4
    go_wp2_with fail
    refine (among_any b x n cap k2 w2.heap.size _ [1000000000, 1000000001, 999999937] _ (by omega) (by simp) (by simp) (Nat.ne_of_gt hC4.out.inside) (IRd.lit w2 [1000000000, 1000000001, 999999937] 3) (hC4.out.alloc _) (hB4.out.alloc _)).mono ?_
    rintro e w3 ⟨q, k3, rfl, -, ke, kf, hC5, hg3⟩
    have hg3 := grown_trans (grown_alloc (grown_refl w2 (some b)) _) hg3
    have hB5 := Lib.hid (hB4.out.grown hg3 hC4.out.apart)
    have hC5 := Lib.hid hC5
    have hR := ((B0.out.grown hg (by omega)).grown hg2 (by omega)).grown hg3 (by omega)
    obtain ⟨s0, s1, s2, s3, s4⟩ := hR
    go_wp2
    refine bodyPost_ret (v := .agg #[.int .i64 (p), .int .i64 (q)]) (by simp [results, Tryd.results31, go_sem, *]) rfl ?_
    exact ⟨_, _, k3, rfl, by omega, by omega, ((hC5.out.set (by omega) _ _).set (by omega) _ _), (by repeat (first | exact grown_refl _ _ | assumption | refine grown_drewN ?_ _ | refine grown_alloc ?_ _ | (refine grown_set ?_ (by first | omega | (simp; done) | (simp; omega)) _ _) | (refine grown_trans ?_ (by assumption)) | (refine grown_trans ?_ (grown_of_below (by assumption) _))))⟩
  go_wp2_with fail
  refine (frac_any b x n cap k1 _ (by omega) hC3.out hB3.out).mono ?_
  rintro e w2 ⟨p, q, k2, rfl, kc, kd, hC4, hg2⟩
  have hC4 := Lib.hid hC4
  have hR := (B0.out.grown hg (by omega)).grown hg2 (by omega)
  obtain ⟨s0, s1, s2, s3, s4⟩ := hR
  go_wp2
  refine bodyPost_ret (v := .agg #[.int .i64 p, .int .i64 q]) (by simp [results, Tryd.results31, go_sem, *]) rfl ?_
  exact ⟨_, _, k2, rfl, by omega, by omega, ((hC4.out.set (by omega) _ _).set (by omega) _ _), (by repeat (first | exact grown_refl _ _ | assumption | refine grown_drewN ?_ _ | refine grown_alloc ?_ _ | (refine grown_set ?_ (by first | omega | (simp; done) | (simp; omega)) _ _) | (refine grown_trans ?_ (by assumption)) | (refine grown_trans ?_ (grown_of_below (by assumption) _))))⟩
end Go.Proofs.YtbglogaljjfnnabDoor
