/-
  The walks of chapter 10: the place of a cell (a range over a list from the back); the program's.
-/
import Derived.Test.YtnmpigedhpdenaaCbQ
import Derived.Test.YtnmpigedhpdenaaAtJ
namespace Go.Proofs.Ytnmpigedhpdenaa
open Go.RowKit Go.Shelf
set_option maxRecDepth 100000
attribute [local go_sem] Oper.semAt_some

/-- The places of a list. -/
abbrev BkI (L : List Int) := { j : Nat // j < L.length }
def bkM {L : List Int} (pre : List (BkI L)) : List Nat := pre.map (·.1)
def bkV (L : List Int) (j : Nat) : Int := L.getD j 0
theorem bkV_at {L : List Int} {j : Nat} {v : Int} (h : L[j]? = some v) : bkV L j = v := by unfold bkV; rw [List.getD_eq_getElem?_getD, h]; rfl
set_option maxHeartbeats 2000000 in
/-- The library's walk from the last on: for every loop body that keeps what lay below n₀, and the slice's box. -/
theorem bk1_in (F : Fence) (n : Nat) (hF : F.fn 108) (hro : F.round = none) (hn : 1 ≤ n) (l Bs n₀ cap : Nat) (y : Option Addr) (L : List Int) (hl6 : L.length ≤ 1048576) (J Jx : List (BkI L) → World → Prop)
    (hY : ∀ pre x W, J pre W → pre.length < L.length → YieldAt F (n - 1) Try.prog l #[.int .i64 (x.1 : Int), .int .i64 (bkV L x.1)] W fun e W' =>
      (e = .returned (.bool true) ∧ J (pre ++ [x]) W' ∧ KpB n₀ Bs W W') ∨ (e = .returned (.bool false) ∧ Jx (pre ++ [x]) W'))
    (W : World) (hBs : Boxed W Bs 22 (.slice y L.length cap))
    (hc : ∀ j, j < L.length → ∃ b off, y = some ⟨b, off, none⟩ ∧ b < n₀ ∧ W.cell? ⟨b, off + j, none⟩ = some (.int .i64 (bkV L j))) (h0 : J [] W) :
    CallsIn F n Try.prog 108 #[.func (.yield l) #[] #[], .pointer (some ⟨Bs, 0, none⟩)] W fun e W' => (∃ v, e = .returned v) ∧
      ((∃ ys : List (BkI L), bkM ys = bkL L.length 0 ∧ J ys W') ∨ (∃ pre : List (BkI L), True ∧ Jx pre W')) := by
  have hcB := hBs.cell
  refine callsIn_of_wp Try.func108 rfl hF ?_ hro
  simp only [Try.ntmps108, List.size_toArray, List.length_cons, List.length_nil, Nat.reduceAdd, Nat.reduceSub, Array.replicate_succ, Array.replicate_zero, List.push_toArray, List.append_toArray, List.nil_append, List.cons_append]
  gi_wp2
  clear hcB
  gi_loopw [3] (fun i wr => ∃ (m : Nat) (pre : List (BkI L)), m ≤ L.length ∧ i = .int .i64 (pdZ m) ∧ Hid (pre.map (·.1) = bkL L.length m) ∧ J pre wr ∧ Below n₀ W wr ∧ wr.heap[Bs]? = W.heap[Bs]?)
    (fun i _ => (intOf i + 1).toNat)
  case atStart => exact ⟨L.length, [], Nat.le_refl _, rfl, by unfold Hid; rw [bkL_end]; rfl, h0, Below.refl _ _, rfl⟩
  case round =>
    obtain ⟨m, pre, hm, rfl, hpre, hJs, hnx, hbox⟩ := hrel
    have hcB := Boxed.cell (show Boxed wr Bs 22 _ from hbox.trans hBs)
    cases m with
    | zero =>
      have hz : pdZ 0 = -1 := rfl
      rw [hz]
      clear hz
      replace hbox := Lib.hid hbox
      gi_wp2
      go_end0
      exact ⟨⟨_, rfl⟩, .inl ⟨pre, hpre.out, hJs⟩⟩
    | succ j =>
      rw [pdZ_s]
      have hlt : j < L.length := hm
      have hlen : pre.length < L.length := by
        have := congrArg List.length hpre.out
        rw [List.length_map, bkL_len] at this
        omega
      obtain ⟨fn, tmps, assign, body, hy, hR⟩ := hY pre ⟨j, hlt⟩ wr hJs hlen
      dsimp only at hy
      obtain ⟨b, off, rfl, hb, c0⟩ := hc j hlt
      have hc0 := (hnx.cell (p := ⟨b, off + j, none⟩) hb).trans c0
      have hlt' : (j : Int) < (L.length : Int) := by omega
      replace hbox := Lib.hid hbox
      gi_wp2
      refine hR.mono ?_
      rintro e W3 (⟨rfl, hJ3, hk3⟩ | ⟨rfl, hJx3⟩)
      · gi_wp2
        go_roundw
        case rel => exact ⟨j, pre ++ [⟨j, hlt⟩], by omega, rfl, by unfold Hid; rw [List.map_append, hpre.out, bkL_step hlt]; rfl, hJ3, hnx.trans hk3.1, hk3.2.trans hbox.out⟩
        case measure => first | (simp [intOf]; done) | (simp [intOf]; omega)
      · gi_wp2
        refine bodyPost_ret (results_none rfl _ _ _) rfl ?_
        exact ⟨⟨_, rfl⟩, .inr ⟨_, trivial, hJx3⟩⟩
theorem bk_stops (F : Fence) (n : Nat) (hF : F.fn 108) (hro : F.round = none) (hn : 1 ≤ n) (Bs n₀ cap : Nat) (y : Option Addr) (L : List Int) (hl6 : L.length ≤ 1048576) (w : World) (hn₀ : n₀ ≤ w.heap.size)
    (hBs : Boxed w Bs 22 (.slice y L.length cap))
    (hc : ∀ j, j < L.length → ∃ b off, y = some ⟨b, off, none⟩ ∧ b < n₀ ∧ w.cell? ⟨b, off + j, none⟩ = some (.int .i64 (bkV L j))) :
    SeqStopsK F n Try.prog 108 #[.pointer (some ⟨Bs, 0, none⟩)] (fun x : BkI L => #[.int .i64 (x.1 : Int), .int .i64 (bkV L x.1)]) (KpB n₀ Bs)
      (fun ys => bkM ys = bkL L.length 0) (fun _ => True) L.length w := fun l J Jx W hW _ _ hY h0 =>
  bk1_in F n hF hro hn l Bs n₀ cap y L hl6 J Jx hY W (boxed_below hBs hW) (fun j hj => by
    obtain ⟨b, off, e, hb, h⟩ := hc j hj
    exact ⟨b, off, e, hb, (hW.cell (p := ⟨b, off + j, none⟩) (Nat.lt_of_lt_of_le hb hn₀)).trans h⟩) h0
theorem bk_any (x : Option Addr) (len cap : Nat) (w : World) :
    Calls Try.prog 102 #[.slice x len cap] w fun e w' => e = .returned (.func (.func 108) #[] #[.pointer (some ⟨w.heap.size, 0, none⟩)]) ∧ w' = w.alloc (.cells #[.slice x len cap] 22) := by
  go_enter Try.func102, Try.ntmps102
  go_wp2
  go_ret
  exact ⟨rfl, rfl⟩
theorem bk_cells {w W : World} {x : Option Addr} {L : List Int} (h : IIn w x L) (hb : Below w.heap.size w W) (j : Nat) (hj : j < L.length) : ∃ b off, x = some ⟨b, off, none⟩ ∧ b < w.heap.size ∧ W.cell? ⟨b, off + j, none⟩ = some (.int .i64 (bkV L j)) := by
  obtain ⟨bl, off, v, rfl, hbl, hLi, hc0⟩ := h.2.2.int hj
  exact ⟨bl, off, rfl, hbl, by rw [bkV_at hLi]; exact (hb.cell (p := ⟨bl, off + j, none⟩) hbl).trans hc0⟩

theorem wb_own {β : Type} (g : Nat) (t : TypeId) (f : β → Array Value) : Own (fun s W => Wb W g t (f s)) := fun _ _ _ _ hr hg hrow => wb_kept hr hg hrow
theorem Wb.off {W : World} {g : Nat} {t : TypeId} {cs : Array Value} (h : Wb W g t cs) (p : Addr) (hne : g ≠ p.block) (u : Value) : Wb (W.setCell p u) g t cs := (Below.heap_setCell _ _ _ _ hne).trans h
theorem iC_setArr (L : List Int) (j : Nat) (v : Int) : (iC L).toArray.setIfInBounds j (.int .i64 v) = (iC (L.set j v)).toArray := by rw [iC_setA, List.setIfInBounds_toArray]
theorem Wb.putI {W : World} {g : Nat} {t : TypeId} {L : List Int} (h : Wb W g t (iC L).toArray) (j : Nat) (v : Int) : Wb (W.setCell ⟨g, j, none⟩ (.int .i64 v)) g t (iC (L.set j v)).toArray := by
  have := h.put j (.int .i64 v)
  rwa [iC_setArr] at this
theorem Wb.atI {W : World} {g : Nat} {t : TypeId} {L : List Int} (h : Wb W g t (iC L).toArray) {j : Nat} {v : Int} (hv : L[j]? = some v) : W.cell? ⟨g, j, none⟩ = some (.int .i64 v) := by
  rw [h.read j, ← Array.getElem?_toList]
  exact iC_at hv
theorem pl_post {w W : World} {n₀ Bi Ba Br Bs : Nat} {ti ta tr : TypeId} {q : Int} {L : List Int} {cs : Array Value} (B : Nat) (b1 : Boxed W Bi ti (.int .i64 q)) (a1 : Wb W Ba ta (iC L).toArray) (r1 : Wb W Br tr cs) (hB : Below n₀ w W)
    (hBi : n₀ ≤ Bi) (hBa : n₀ ≤ Ba) (h1 : Bi ≠ Ba) (h2 : Br ≠ Ba) (h3 : Br ≠ Bi) (h4 : Bs ≠ Ba) (h5 : Bs ≠ Bi) (j : Nat) (v q' : Int) :
    KeepsFrom B W ((W.setCell ⟨Ba, j, none⟩ (.int .i64 v)).setCell ⟨Bi, 0, none⟩ (.int .i64 q')) ∧ KpB n₀ Bs W ((W.setCell ⟨Ba, j, none⟩ (.int .i64 v)).setCell ⟨Bi, 0, none⟩ (.int .i64 q')) ∧
      (((Boxed ((W.setCell ⟨Ba, j, none⟩ (.int .i64 v)).setCell ⟨Bi, 0, none⟩ (.int .i64 q')) Bi ti (.int .i64 q') ∧ Wb ((W.setCell ⟨Ba, j, none⟩ (.int .i64 v)).setCell ⟨Bi, 0, none⟩ (.int .i64 q')) Ba ta (iC (L.set j v)).toArray) ∧ Wb ((W.setCell ⟨Ba, j, none⟩ (.int .i64 v)).setCell ⟨Bi, 0, none⟩ (.int .i64 q')) Br tr cs) ∧ Below n₀ w ((W.setCell ⟨Ba, j, none⟩ (.int .i64 v)).setCell ⟨Bi, 0, none⟩ (.int .i64 q'))) ∧
      (W.setCell ⟨Ba, j, none⟩ (.int .i64 v)).cell? ⟨Bi, 0, none⟩ = some (.int .i64 q) ∧ (W.setCell ⟨Ba, j, none⟩ (.int .i64 v)).frozen? ⟨Bi, 0, none⟩ = false := by
  have c1 := boxed_far b1 ⟨Ba, j, none⟩ h1 (.int .i64 v)
  have a2 := c1.set (.int .i64 q')
  have a3 := (a1.putI j v).off ⟨Bi, 0, none⟩ (Ne.symm h1) (.int .i64 q')
  have a4 := (r1.off ⟨Ba, j, none⟩ h2 (.int .i64 v)).off ⟨Bi, 0, none⟩ h3 (.int .i64 q')
  have a5 : Below n₀ W ((W.setCell ⟨Ba, j, none⟩ (.int .i64 v)).setCell ⟨Bi, 0, none⟩ (.int .i64 q')) := ((Below.refl n₀ W).setCell (p := ⟨Ba, j, none⟩) hBa _).setCell (p := ⟨Bi, 0, none⟩) hBi _
  have a6 := (Below.heap_setCell (W.setCell ⟨Ba, j, none⟩ (.int .i64 v)) ⟨Bi, 0, none⟩ (.int .i64 q') Bs h5).trans (Below.heap_setCell W ⟨Ba, j, none⟩ (.int .i64 v) Bs h4)
  exact ⟨((KeepsOthers.setCell _ _ _).trans (KeepsOthers.setCell _ _ _)).from _, ⟨a5, a6⟩, ⟨⟨⟨a2, a3⟩, a4⟩, hB.trans a5⟩, c1.cell, c1.frozen⟩

def PlPost (Z : List Int) (i : Int) (w : World) (e : Ending) (w' : World) : Prop :=
  ∃ a b c d : Int, dgX Z i = [a, b, c, d] ∧ e = .returned (.agg #[.int .i64 a, .int .i64 b, .int .i64 c, .int .i64 d]) ∧ Below w.heap.size w w'
set_option maxHeartbeats 4000000 in
theorem placeOf_any (x : Option Addr) (cap : Nat) (Z : List Int) (i : Int) (w : World) (hz : okZ Z = true) (h0 : 0 ≤ i) (h1 : i ≤ 1000000) (hZ : IIn w x Z) :
    Calls Try.prog 85 #[.slice x Z.length cap, .int .i64 i] w (PlPost Z i w) := by
  have hZh := Lib.hid hZ
  have hzh := Lib.hid hz
  have h4 := okZ_len hz
  clear hZ hz
  refine (callsIn_wide (n := 5)).1 ?_
  refine callsIn_of_wp_marks Try.func85 rfl trivial ?_ rfl
  simp only [Try.ntmps85, List.size_toArray, List.length_cons, List.length_nil, Nat.reduceAdd, Nat.reduceSub, Array.replicate_succ, Array.replicate_zero, List.push_toArray, List.append_toArray, List.nil_append, List.cons_append]
  refine wpIn_wide.2 ?_
  go_wp2_with fail
  refine (bk_any _ _ _ _).mono ?_
  rintro e w' ⟨rfl, rfl⟩
  have bI := (((Boxed.new w 3 (.int .i64 i)).alloc (.cells #[.int .i64 0, .int .i64 0, .int .i64 0, .int .i64 0] 81)).alloc (.cells #[.int .i64 0, .int .i64 0, .int .i64 0, .int .i64 0] 81)).alloc (.cells #[.slice x Z.length cap] 22)
  have bR := ((Wb.new (w.alloc (.cells #[.int .i64 i] 3)) 81 #[.int .i64 0, .int .i64 0, .int .i64 0, .int .i64 0]).kept (w' := (((w.alloc (.cells #[.int .i64 i] 3)).alloc (.cells #[.int .i64 0, .int .i64 0, .int .i64 0, .int .i64 0] 81)).alloc (.cells #[.int .i64 0, .int .i64 0, .int .i64 0, .int .i64 0] 81)).alloc (.cells #[.slice x Z.length cap] 22)) (by repeat (first | exact Below.refl _ _ | assumption | refine Below.drew ?_ | refine below_drewN ?_ _ | refine Below.alloc' ?_ _ | (refine Below.setCell ?_ (by first | omega | (simp; done) | (simp; omega) | exact Below.size (by assumption) | exact Nat.le_trans (Below.size (by assumption)) (by simp)) _) | (refine Below.via' ?_ (by assumption)) | (refine Below.alloc ?_ (by first | omega | (simp; done) | (simp; omega) | exact Below.size (by assumption) | exact Nat.le_trans (Below.size (by assumption)) (by simp)) _) | (refine Below.via ?_ (by assumption) (by first | omega | (simp; done) | (simp; omega) | exact Below.size (by assumption) | exact Nat.le_trans (Below.size (by assumption)) (by simp))))))
  have bA := ((Wb.new ((w.alloc (.cells #[.int .i64 i] 3)).alloc (.cells #[.int .i64 0, .int .i64 0, .int .i64 0, .int .i64 0] 81)) 81 #[.int .i64 0, .int .i64 0, .int .i64 0, .int .i64 0]).kept (w' := (((w.alloc (.cells #[.int .i64 i] 3)).alloc (.cells #[.int .i64 0, .int .i64 0, .int .i64 0, .int .i64 0] 81)).alloc (.cells #[.int .i64 0, .int .i64 0, .int .i64 0, .int .i64 0] 81)).alloc (.cells #[.slice x Z.length cap] 22)) (by repeat (first | exact Below.refl _ _ | assumption | refine Below.drew ?_ | refine below_drewN ?_ _ | refine Below.alloc' ?_ _ | (refine Below.setCell ?_ (by first | omega | (simp; done) | (simp; omega) | exact Below.size (by assumption) | exact Nat.le_trans (Below.size (by assumption)) (by simp)) _) | (refine Below.via' ?_ (by assumption)) | (refine Below.alloc ?_ (by first | omega | (simp; done) | (simp; omega) | exact Below.size (by assumption) | exact Nat.le_trans (Below.size (by assumption)) (by simp)) _) | (refine Below.via ?_ (by assumption) (by first | omega | (simp; done) | (simp; omega) | exact Below.size (by assumption) | exact Nat.le_trans (Below.size (by assumption)) (by simp))))))
  have bS := Boxed.new (((w.alloc (.cells #[.int .i64 i] 3)).alloc (.cells #[.int .i64 0, .int .i64 0, .int .i64 0, .int .i64 0] 81)).alloc (.cells #[.int .i64 0, .int .i64 0, .int .i64 0, .int .i64 0] 81)) 22 (.slice x Z.length cap)
  simp only [World.size_alloc] at bR bA bS
  have hB0 : Below w.heap.size w ((((w.alloc (.cells #[.int .i64 i] 3)).alloc (.cells #[.int .i64 0, .int .i64 0, .int .i64 0, .int .i64 0] 81)).alloc (.cells #[.int .i64 0, .int .i64 0, .int .i64 0, .int .i64 0] 81)).alloc (.cells #[.slice x Z.length cap] 22)) := (by repeat (first | exact Below.refl _ _ | assumption | refine Below.drew ?_ | refine below_drewN ?_ _ | refine Below.alloc' ?_ _ | (refine Below.setCell ?_ (by first | omega | (simp; done) | (simp; omega) | exact Below.size (by assumption) | exact Nat.le_trans (Below.size (by assumption)) (by simp)) _) | (refine Below.via' ?_ (by assumption)) | (refine Below.alloc ?_ (by first | omega | (simp; done) | (simp; omega) | exact Below.size (by assumption) | exact Nat.le_trans (Below.size (by assumption)) (by simp)) _) | (refine Below.via ?_ (by assumption) (by first | omega | (simp; done) | (simp; omega) | exact Below.size (by assumption) | exact Nat.le_trans (Below.size (by assumption)) (by simp)))))
  have hsz : ((((w.alloc (.cells #[.int .i64 i] 3)).alloc (.cells #[.int .i64 0, .int .i64 0, .int .i64 0, .int .i64 0] 81)).alloc (.cells #[.int .i64 0, .int .i64 0, .int .i64 0, .int .i64 0] 81)).alloc (.cells #[.slice x Z.length cap] 22)).heap.size = w.heap.size + 4 := by simp
  go_wp2
  obtain ⟨W0, hW0⟩ : ∃ W0, (((w.alloc (.cells #[.int .i64 i] 3)).alloc (.cells #[.int .i64 0, .int .i64 0, .int .i64 0, .int .i64 0] 81)).alloc (.cells #[.int .i64 0, .int .i64 0, .int .i64 0, .int .i64 0] 81)).alloc (.cells #[.slice x Z.length cap] 22) = W0 := ⟨_, rfl⟩
  rw [hW0] at bI bR bA bS hB0 hsz ⊢
  clear hW0
  refine (wpIn_wide (n := 5)).1 ?_
  refine wpIn_rangeFunc_ownH (F := Fence.wide) (n := 5) rfl (by omega) (gf := 108) (lb := #[.pointer (some ⟨w.heap.size + 1 + 1 + 1, 0, none⟩)]) rfl trivial (enters_of Try.func108 (by kernel_rfl) rfl)
    (bk_stops Fence.wide 4 trivial rfl (by omega) (w.heap.size + 1 + 1 + 1) w.heap.size cap x Z (by omega) W0 hB0.size bS (bk_cells hZh.out hB0))
    (fun h k => ⟨h.1.trans k.1, k.2.trans h.2⟩) (fun W l o o' hl hlo hc hw => ⟨belowK_b hB0.size W l o o' hl hlo hc hw, World.putObj_heap_other (by intro e; omega)⟩) (Below.refl _ _) (fun _ => rfl)
    (fun pre W => ((Boxed W w.heap.size 3 (.int .i64 (plFr Z i (bkM pre)).1) ∧ Wb W (w.heap.size + 1 + 1) 81 (iC (plFr Z i (bkM pre)).2).toArray) ∧ Wb W (w.heap.size + 1) 81 #[.int .i64 0, .int .i64 0, .int .i64 0, .int .i64 0]) ∧ Below w.heap.size w W)
    (fun _ _ _ => False)
    (OwnFrom.and (OwnFrom.and (OwnFrom.and (Own.from (boxed_own _ _ _) _) (Own.from (wb_own _ _ _) _)) (Own.from (wb_own _ _ _) _)) (ownFrom_below (Nat.le_refl _) (by omega)))
    (fun _ _ _ _ _ hs _ _ => hs)
    ⟨⟨⟨bI, bA⟩, bR⟩, hB0⟩
    (fun z a' _ => a' = { tmps := #[.slice x Z.length cap, .int .i64 i, undef, .pointer (some ⟨w.heap.size, 0, none⟩), .pointer (some ⟨w.heap.size + 1, 0, none⟩), .pointer (some ⟨w.heap.size + 1 + 1, 0, none⟩), .int .i64 (z.1 : Int), .int .i64 (bkV Z z.1), .slice x Z.length cap, .func (.func 108) #[] #[.pointer (some ⟨w.heap.size + 1 + 1 + 1, 0, none⟩)], .int .i64 (z.1 : Int), .int .i64 (bkV Z z.1), undef, undef, undef, undef, undef, undef, undef, undef, undef, undef, undef], defers := [] })
    (fun z a' _ X Y row hs hg hr => hs)
    ?assign ?body ?done ?stop
  case assign =>
    rintro l pre z W K ⟨⟨⟨b1, a1⟩, r1⟩, hB1⟩ hK
    gi_wp2
    exact hK _ _ (KeepsFrom.refl _ W) ⟨Below.refl _ _, rfl⟩ ⟨⟨⟨b1, a1⟩, r1⟩, hB1⟩ rfl
  case body =>
    rintro l pre z a' W hl ⟨r, hr⟩ ⟨⟨⟨b1, a1⟩, r1⟩, hB1⟩ rfl hlt
    have c1 := b1.cell
    have f1 := b1.frozen
    have hz := z.2
    have hz4 : z.1 < 4 := by omega
    have hzp : Z[z.1]? = some Z[z.1] := List.getElem?_eq_getElem hz
    have hbv := Lib.hid (bkV_at hzp)
    obtain ⟨l1, l2⟩ := okZ_at hzh.out hzp
    obtain ⟨p0, p1⟩ := plFr_bd hzh.out h0 (bkM pre)
    have hst : plFr Z i (bkM (pre ++ [z])) = ((plFr Z i (bkM pre)).1 / (bkV Z z.1 + 1), (plFr Z i (bkM pre)).2.set z.1 ((plFr Z i (bkM pre)).1 % (bkV Z z.1 + 1))) := by
      show plFr Z i ((pre ++ [z]).map (·.1)) = _
      rw [List.map_append]
      exact plFr_snoc _ _ _ _
    have e1 := Lib.hid (congrArg Prod.fst hst)
    have e2 := Lib.hid (congrArg Prod.snd hst)
    have l3 : 1 ≤ bkV Z z.1 ∧ bkV Z z.1 ≤ 30 := by rw [hbv.out]; exact ⟨l1, l2⟩
    obtain ⟨m1, m2⟩ := l3
    have l4 : bkV Z z.1 + 1 ≠ 0 := by omega
    obtain ⟨y, hy⟩ : ∃ y, (plFr Z i (bkM pre)).2[z.1]? = some y := ⟨_, List.getElem?_eq_getElem (by rw [plFr_len]; exact hz4)⟩
    have k0 := a1.atI hy
    have k2 := a1.free z.1
    have k4 := a1.inside
    have hz' : (z.1 : Int) < 4 := by omega
    have hz0 : (0 : Int) ≤ (z.1 : Int) := by omega
    have t1 : (plFr Z i (bkM pre)).1.tmod (bkV Z z.1 + 1) = (plFr Z i (bkM pre)).1 % (bkV Z z.1 + 1) := Int.tmod_eq_emod_of_nonneg p0
    have t2 : (plFr Z i (bkM pre)).1.tdiv (bkV Z z.1 + 1) = (plFr Z i (bkM pre)).1 / (bkV Z z.1 + 1) := Int.tdiv_eq_ediv_of_nonneg p0
    have t3 : wrap64 ((plFr Z i (bkM pre)).1 / (bkV Z z.1 + 1)) = (plFr Z i (bkM pre)).1 / (bkV Z z.1 + 1) := IntWalk.wrap64_in _ (by have := Int.ediv_le_self (bkV Z z.1 + 1) p0; have := Int.ediv_nonneg p0 (show 0 ≤ bkV Z z.1 + 1 by omega); omega)
    have hpost := pl_post (Bs := w.heap.size + 1 + 1 + 1) (w.heap.size + 4) b1 a1 r1 hB1 (Nat.le_refl _) (by omega) (by omega) (by omega) (by omega) (by omega) (by omega) z.1 ((plFr Z i (bkM pre)).1 % (bkV Z z.1 + 1)) ((plFr Z i (bkM pre)).1 / (bkV Z z.1 + 1))
    have c9 := hpost.2.2.2.1
    have f9 := hpost.2.2.2.2
    replace hpost := Lib.hid hpost
    replace hy := Lib.hid hy
    replace hzp := Lib.hid hzp
    replace t3 := Lib.hid t3
    clear hst hl hr b1 a1 r1 hB1 l1 l2
    gi_wp2
    rw [t3.out]
    refine ⟨hpost.out.1, hpost.out.2.1, ?_⟩
    simp only [e1.out, e2.out]
    exact hpost.out.2.2.1
  case done =>
    rintro D ys W hD hys ⟨⟨⟨b1, a1⟩, r1⟩, hB1⟩ hK
    rw [hys, pl_end hzh.out] at a1
    obtain ⟨a, b, c, d, habcd⟩ := dgX_four h4 i
    rw [habcd] at a1
    have hab := Lib.hid habcd
    have q0 : W.cell? ⟨w.heap.size + 1 + 1, 0, none⟩ = some (.int .i64 a) := (a1.read 0).trans rfl
    have q1 : W.cell? ⟨w.heap.size + 1 + 1, 1, none⟩ = some (.int .i64 b) := (a1.read 1).trans rfl
    have q2 : W.cell? ⟨w.heap.size + 1 + 1, 2, none⟩ = some (.int .i64 c) := (a1.read 2).trans rfl
    have q3 : W.cell? ⟨w.heap.size + 1 + 1, 3, none⟩ = some (.int .i64 d) := (a1.read 3).trans rfl
    have s0 : W.cell? ⟨w.heap.size + 1, 0, none⟩ = some (.int .i64 0) := (r1.read 0).trans rfl
    have s1 : W.cell? ⟨w.heap.size + 1, 1, none⟩ = some (.int .i64 0) := (r1.read 1).trans rfl
    have s2 : W.cell? ⟨w.heap.size + 1, 2, none⟩ = some (.int .i64 0) := (r1.read 2).trans rfl
    have s3 : W.cell? ⟨w.heap.size + 1, 3, none⟩ = some (.int .i64 0) := (r1.read 3).trans rfl
    have v0 := r1.free 0
    have v1 := r1.free 1
    have v2 := r1.free 2
    have v3 := r1.free 3
    have i1 := a1.inside
    have i2 := r1.inside
    have r1h := Lib.hid r1
    have hKh := Lib.hid hK
    have hne : D ≠ w.heap.size + 1 := by omega
    have hBh := Lib.hid hB1
    clear habcd b1 r1 hK hB1 a1
    go_wp2
    have rr : Wb ((((W.setCell ⟨w.heap.size + 1, 0, none⟩ (.int .i64 a)).setCell ⟨w.heap.size + 1, 1, none⟩ (.int .i64 b)).setCell ⟨w.heap.size + 1, 2, none⟩ (.int .i64 c)).setCell ⟨w.heap.size + 1, 3, none⟩ (.int .i64 d)) (w.heap.size + 1) 81 #[.int .i64 a, .int .i64 b, .int .i64 c, .int .i64 d] := (((r1h.out.put 0 (.int .i64 a)).put 1 (.int .i64 b)).put 2 (.int .i64 c)).put 3 (.int .i64 d)
    have hB4 : Below w.heap.size w ((((W.setCell ⟨w.heap.size + 1, 0, none⟩ (.int .i64 a)).setCell ⟨w.heap.size + 1, 1, none⟩ (.int .i64 b)).setCell ⟨w.heap.size + 1, 2, none⟩ (.int .i64 c)).setCell ⟨w.heap.size + 1, 3, none⟩ (.int .i64 d)) := (((hBh.out.setCell (p := ⟨w.heap.size + 1, 0, none⟩) (Nat.le_succ _) _).setCell (p := ⟨w.heap.size + 1, 1, none⟩) (Nat.le_succ _) _).setCell (p := ⟨w.heap.size + 1, 2, none⟩) (Nat.le_succ _) _).setCell (p := ⟨w.heap.size + 1, 3, none⟩) (Nat.le_succ _) _
    have hK4 : ((((W.setCell ⟨w.heap.size + 1, 0, none⟩ (.int .i64 a)).setCell ⟨w.heap.size + 1, 1, none⟩ (.int .i64 b)).setCell ⟨w.heap.size + 1, 2, none⟩ (.int .i64 c)).setCell ⟨w.heap.size + 1, 3, none⟩ (.int .i64 d)).heap[D]? = some (.deferred (some [])) := (Below.heap_setCell _ ⟨w.heap.size + 1, 3, none⟩ _ D hne).trans ((Below.heap_setCell _ ⟨w.heap.size + 1, 2, none⟩ _ D hne).trans ((Below.heap_setCell _ ⟨w.heap.size + 1, 1, none⟩ _ D hne).trans ((Below.heap_setCell _ ⟨w.heap.size + 1, 0, none⟩ _ D hne).trans hKh.out)))
    obtain ⟨W4, hW4⟩ : ∃ W4, (((W.setCell ⟨w.heap.size + 1, 0, none⟩ (.int .i64 a)).setCell ⟨w.heap.size + 1, 1, none⟩ (.int .i64 b)).setCell ⟨w.heap.size + 1, 2, none⟩ (.int .i64 c)).setCell ⟨w.heap.size + 1, 3, none⟩ (.int .i64 d) = W4 := ⟨_, rfl⟩
    rw [hW4] at rr hB4 hK4 ⊢
    refine ⟨by simp, .inl ⟨_, _, rfl, run_takeDeferred hK4, ?_⟩⟩
    have r5 : Wb (W4.putObj D (.deferred none)) (w.heap.size + 1) 81 #[.int .i64 a, .int .i64 b, .int .i64 c, .int .i64 d] := (World.putObj_heap_other (Ne.symm hne)).trans rr
    have d0 : (W4.putObj D (.deferred none)).cell? ⟨w.heap.size + 1, 0, none⟩ = some (.int .i64 a) := (r5.read 0).trans rfl
    have d1 : (W4.putObj D (.deferred none)).cell? ⟨w.heap.size + 1, 1, none⟩ = some (.int .i64 b) := (r5.read 1).trans rfl
    have d2 : (W4.putObj D (.deferred none)).cell? ⟨w.heap.size + 1, 2, none⟩ = some (.int .i64 c) := (r5.read 2).trans rfl
    have d3 : (W4.putObj D (.deferred none)).cell? ⟨w.heap.size + 1, 3, none⟩ = some (.int .i64 d) := (r5.read 3).trans rfl
    refine ⟨.agg #[.int .i64 a, .int .i64 b, .int .i64 c, .int .i64 d], by simp [results, Try.results85, loadVar, go_sem, d0, d1, d2, d3], a, b, c, d, hab.out, rfl, ?_⟩
    exact hB4.trans (belowK_b (w := w) (Nat.le_refl _) W4 D _ _ (by omega) hK4 rfl rfl)
  case stop =>
    rintro D c pre W _ _ h _
    exact h.elim
end Go.Proofs.Ytnmpigedhpdenaa
