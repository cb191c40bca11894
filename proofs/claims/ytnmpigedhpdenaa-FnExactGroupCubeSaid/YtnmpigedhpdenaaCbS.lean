/-
  The walks of chapter 10: the parts of a cell in a dimension; the model's.
-/
import Derived.Test.YtnmpigedhpdenaaCbO
namespace Go.Proofs.Ytnmpigedhpdenaa
open Go.RowKit
set_option maxRecDepth 100000

def RetC (L : List Int) (w : World) (e : Ending) (w' : World) : Prop := ∃ v, e = .returned v ∧ w'.ownsRow w.heap.size 3 1 v L.length (iC L) ∧ Below w.heap.size w w'
theorem rd_oneN (w : World) (t : TypeId) (n : Int) (g : Nat) (h : w.heap.size = g) : Rd (w.alloc (.cells #[.int .i64 n] t)) (some ⟨g, 0, none⟩) (iC [n]) := by
  subst h
  refine Or.inr ⟨w.heap.size, 0, rfl, by simp, fun j u hj => ?_⟩
  rw [Nat.zero_add, World.cell?_alloc_at _ _ _ _ rfl, ← hj, ← Array.getElem?_toList]
  rfl
theorem iC_appN (A B : List Int) : iC (A ++ B) = iC A ++ iC B := by unfold iC; rw [List.map_append]
theorem own_snocN {w : World} {base e k : Nat} {u : Value} {L M : List Int} {a : Int} (h : w.ownsRow base e 1 u (L.length + 1) (iC L ++ iC [a])) (hk : M = L ++ [a]) (hn : k = M.length) : w.ownsRow base e 1 u k (iC M) := by
  subst hk hn
  rw [iC_appN, List.length_append]
  exact h
theorem setCell_grownN (W : World) (b o : Nat) (v : Value) : W.grownBy (W.setCell ⟨b, o, none⟩ v) (some b) :=
  ⟨rfl, rfl, rfl, by simp [World.setCell], fun k _ hne => Below.heap_setCell _ _ _ _ (fun e => hne (by rw [e]))⟩
set_option maxHeartbeats 4000000 in
theorem cbParts_any (x : Option Addr) (c0 : Nat) (Z : List Int) (i : Int) (d : Nat) (w : World) (hz : okZ Z = true) (h0 : 0 ≤ i) (h1 : i ≤ 1000000) (hd : d < Z.length) (hZ : IIn w x Z) :
    Calls Try.prog 88 #[.slice x Z.length c0, .int .i64 i, .int .i64 d] w (RetC (ptD Z i d) w) := by
  obtain ⟨i0, hii, hz0, hz1, hz2⟩ := info_parts Try.infoInt
  have hZh := Lib.hid hZ
  have hzh := Lib.hid hz
  have h4 := okZ_len hz
  obtain ⟨bl, off, z, rfl, hbl, hZd, hc0⟩ := hZ.2.2.int hd
  obtain ⟨l1, l2⟩ := okZ_at hz hZd
  have hZdh := Lib.hid hZd
  have hld : (d : Int) < (Z.length : Int) := by omega
  clear hZ hz hZd
  go_enter Try.func88, Try.ntmps88
  go_wp2_with fail
  refine (cbIndices_any _ _ Z i _ hzh.out h0 h1 hZh.out).mono ?_
  rintro e w1 ⟨rfl, ho1, hb1⟩
  have hoh := Lib.hid ho1
  have hg1 := (own_lt ho1).2
  have hb1h := Lib.hid hb1
  have hl30 := ptD_30 hzh.out i d
  clear ho1 hb1 hc0
  go_wp2
  go_loopw [8, 9] (fun u q wr => ∃ (k : Nat) (I : List Int), (k : Int) ≤ z ∧ q = .int .i64 k ∧ I.length = Z.length ∧ Hid (∀ m, I.set d m = (dgL Z i).set d m) ∧ Hid (wr.ownsRow w.heap.size 3 1 (.slice (some ⟨w.heap.size, 0, none⟩) Z.length Z.length) Z.length (iC I)) ∧ Hid (wr.ownsRow w1.heap.size 3 1 u ((ptD Z i d).take k).length (iC ((ptD Z i d).take k))) ∧ Below w.heap.size w wr ∧ w1.heap.size ≤ wr.heap.size) (fun _ q _ => (z - intOf q).toNat)
  case atStart => exact ⟨0, dgL Z i, by omega, by go_num, dgL_len _ _, fun _ => rfl, hoh.out, World.ownsRow_nil _ _ _ _, hb1h.out, Nat.le_refl _⟩
  case round =>
    clear hoh hb1h
    obtain ⟨k, I, hk, rfl, hIl, hset, hI, hO, hB, hsz⟩ := hrel
    have hc1 := (hB.cell (p := ⟨bl, off + d, none⟩) hbl).trans (by
      obtain ⟨b', o', z', e', _, hz', hc'⟩ := hZh.out.2.2.int hd
      rw [hZdh.out] at hz'
      cases hz'
      cases e'
      exact hc' : w.cell? ⟨bl, off + d, none⟩ = some (.int .i64 z))
    have hbl2 : bl < wr.heap.size := Nat.lt_of_lt_of_le hbl hB.size
    by_cases hlt : (k : Int) < z
    · obtain ⟨u0, hu0, k0⟩ := own_cell hI.out (j := d) (by omega)
      have k2 := hI.out.frozenAt d
      have k4 := (own_lt hI.out).2
      have hIs : Hid ((wr.setCell ⟨w.heap.size, d, none⟩ (.int .i64 k)).ownsRow w.heap.size 3 1 (.slice (some ⟨w.heap.size, 0, none⟩) Z.length Z.length) Z.length (iC (I.set d k))) := by
        have h5 := (hI.out.stored d (.int .i64 k)).1
        rw [← iC_setA] at h5
        exact h5
      have hOs : Hid ((wr.setCell ⟨w.heap.size, d, none⟩ (.int .i64 k)).ownsRow w1.heap.size 3 1 u8 ((ptD Z i d).take k).length (iC ((ptD Z i d).take k))) := hO.out.kept (setCell_grownN _ w.heap.size d (.int .i64 k)) (by
        cases hv : u8.ownBlock with
        | none => exact .inl rfl
        | some b => exact .inr (fun e => by have := (hO.out.lt b hv).1; injection e with e; omega))
      have hBs : Below w.heap.size w (wr.setCell ⟨w.heap.size, d, none⟩ (.int .i64 k)) := Below.setCell (p := ⟨w.heap.size, d, none⟩) hB (Nat.le_refl _) _
      have hfit : Hid (FtC Z (I.set d k)) := by
        unfold Hid
        rw [hset.out]
        exact (dg_fit (okZ_nn hzh.out) i).set hZdh.out (by omega) (by omega)
      have hsn := Lib.hid (ptD_snoc i hZdh.out hlt)
      have hll : ((ptD Z i d).take k).length ≤ 30 := by rw [List.length_take]; omega
      have hIl2 : (I.set d (k : Int)).length = Z.length := by rw [List.length_set]; exact hIl
      have hrd := hIs.out
      rw [← hIl2] at hrd
      have hrdh := Lib.hid (Rd.of_own hrd)
      clear hrd
      replace hu0 := Lib.hid hu0
      replace hIl := Lib.hid hIl
      go_wp2_with fail
      have hcall := cbAt_any (some ⟨bl, off, none⟩) (some ⟨w.heap.size, 0, none⟩) c0 Z.length Z (I.set d k) _ hzh.out hfit.out (hZh.out.below hBs) hrdh.out
      rw [hIl2] at hcall
      replace hIl2 := Lib.hid hIl2
      refine hcall.mono ?_
      rintro e w3 ⟨rfl, rfl⟩
      clear hcall
      have hss := hBs.size
      go_wp2_with (at_builtin; go_loud (refine wpList_append_rd _ rfl (.tmp 25) (.tmp 29) 22 rfl w1.heap.size 3 i0 (.int .i64 0) 1 8 Try.underlying22 hii hz0 hz1 hz2 rfl (by decide) _ ((ptD Z i d).take k).length (iC ((ptD Z i d).take k)) rfl (hOs.out.alloc _) _ 1 1 rfl (Nat.le_refl _) (by intro h; cases h) (iC [ixC Z (I.set d k)]) rfl (rd_oneN _ _ _ _ (by simp)) (iC_one _) (by unfold maxLen; omega) (by omega) (by simp; omega) ?_); intro v3 w4 hown3 hgrow3 hwhere3)
      have hb4 : Below w.heap.size w w4 ∧ True := ⟨(append_below hBs (fun b hb => Nat.le_trans (Nat.le_of_lt hg1) (hOs.out.lt b hb).1) hgrow3 hwhere3).1, trivial⟩
      have hO4 := Lib.hid (own_snocN (M := (ptD Z i d).take (k + 1)) hown3 (by rw [hsn.out, hset.out]) rfl)
      have hI4 : Hid (w4.ownsRow w.heap.size 3 1 (.slice (some ⟨w.heap.size, 0, none⟩) Z.length Z.length) Z.length (iC (I.set d k))) := (hIs.out.alloc _).kept hgrow3 (.inr (by
        intro e
        have := (hOs.out.lt w.heap.size e.symm).1
        omega))
      have hs4 : w1.heap.size ≤ w4.heap.size := by have := hgrow3.size; simp at this; omega
      have hb5 := hb4.1
      clear hgrow3 hwhere3 hown3 hb4
      go_wp2
      go_roundw
      case rel => exact ⟨k + 1, I.set d k, by omega, by go_num, hIl2.out, (fun m => by rw [List.set_set]; exact hset.out m), hI4, hO4, hb5, hs4⟩
      case measure => simp [intOf]; omega
    · have hfull := Lib.hid (ptD_full i hZdh.out (k := k) (by omega))
      have hOf : Hid (wr.ownsRow w1.heap.size 3 1 u8 (ptD Z i d).length (iC (ptD Z i d))) := by
        have h6 := hO.out
        rw [hfull.out] at h6
        exact h6
      go_wp2
      go_ret
      exact ⟨_, rfl, own_more hOf.out (Nat.le_of_lt hg1), hB⟩
end Go.Proofs.Ytnmpigedhpdenaa
