/-
  The walks of chapter 2: the values with an index; the program's, where there are some: a range over the variables from the last on.
-/
import Derived.Test.YtgkaalonmkcclabAtI
import Derived.Test.YtgkaalonmkcclabPts
namespace Go.Proofs.Ytgkaalonmkcclab
open Go.RowKit Go.Shelf
set_option maxRecDepth 100000
attribute [local go_sem] Oper.semAt_some

/-- The places of variables. -/
abbrev BwI (S : List (ByteArray × Int)) := { j : Nat // j < S.length }
def bwM {S : List (ByteArray × Int)} (pre : List (BwI S)) : List Nat := pre.map (·.1)
def KpB (n₀ Bs : Nat) (A B : World) : Prop := Below n₀ A B ∧ B.heap[Bs]? = A.heap[Bs]?
set_option maxHeartbeats 2000000 in
/-- The library's walk from the last on: for every loop body that keeps what lay below n₀, and the slice's box. -/
theorem bw1_in (F : Fence) (n : Nat) (hF : F.fn 192) (hro : F.round = none) (hn : 1 ≤ n) (l Bs n₀ b off cap : Nat) (S : List (ByteArray × Int)) (hl6 : S.length ≤ 6) (hb : b < n₀) (J Jx : List (BwI S) → World → Prop)
    (hY : ∀ pre x W, J pre W → pre.length < S.length → YieldAt F (n - 1) Try.prog l #[.int .i64 (x.1 : Int), .agg #[.string (nmA S x.1), .int .i64 (lvA S x.1)]] W fun e W' =>
      (e = .returned (.bool true) ∧ J (pre ++ [x]) W' ∧ KpB n₀ Bs W W') ∨ (e = .returned (.bool false) ∧ Jx (pre ++ [x]) W'))
    (W : World) (hBs : Boxed W Bs 29 (.slice (some ⟨b, off, none⟩) S.length cap))
    (hc : ∀ j, j < S.length → W.cell? ⟨b, off + j * 2, none⟩ = some (.string (nmA S j)) ∧ W.cell? ⟨b, off + j * 2 + 1, none⟩ = some (.int .i64 (lvA S j))) (h0 : J [] W) :
    CallsIn F n Try.prog 192 #[.func (.yield l) #[] #[], .pointer (some ⟨Bs, 0, none⟩)] W fun e W' => (∃ v, e = .returned v) ∧
      ((∃ ys : List (BwI S), bwM ys = cmL S.length 0 ∧ J ys W') ∨ (∃ pre : List (BwI S), True ∧ Jx pre W')) := by
  have hcB := hBs.cell
  refine callsIn_of_wp Try.func192 rfl hF ?_ hro
  simp only [Try.ntmps192, List.size_toArray, List.length_cons, List.length_nil, Nat.reduceAdd, Nat.reduceSub, Array.replicate_succ, Array.replicate_zero, List.push_toArray, List.append_toArray, List.nil_append, List.cons_append]
  gi_wp2
  clear hcB
  gi_loopw [3] (fun i wr => ∃ (m : Nat) (pre : List (BwI S)), m ≤ S.length ∧ i = .int .i64 (pdZ m) ∧ Hid (pre.map (·.1) = cmL S.length m) ∧ J pre wr ∧ Below n₀ W wr ∧ wr.heap[Bs]? = W.heap[Bs]?)
    (fun i _ => (intOf i + 1).toNat)
  case atStart => exact ⟨S.length, [], Nat.le_refl _, rfl, by unfold Hid; rw [cmL_end]; rfl, h0, Below.refl _ _, rfl⟩
  case round =>
    obtain ⟨m, pre, hm, rfl, hpre, hJs, hnx, hbox⟩ := hrel
    have hcB := Boxed.cell (show Boxed wr Bs 29 _ from hbox.trans hBs)
    cases m with
    | zero =>
      have hz : pdZ 0 = -1 := rfl
      rw [hz]
      clear hz
      replace hbox := Lib.hid hbox
      gi_wp2
      go_end0
      exact ⟨⟨_, rfl⟩, .inl ⟨pre, hpre.out, hJs⟩⟩
    | succ j =>
      rw [pdZ_s]
      have hlt : j < S.length := hm
      have hlen : pre.length < S.length := by
        have := congrArg List.length hpre.out
        rw [List.length_map, cmL_len] at this
        omega
      obtain ⟨fn, tmps, assign, body, hy, hR⟩ := hY pre ⟨j, hlt⟩ wr hJs hlen
      dsimp only at hy
      obtain ⟨c0, c1⟩ := hc j hlt
      have hc0 := (hnx.cell (p := ⟨b, off + j * 2, none⟩) hb).trans c0
      have hc1 := (hnx.cell (p := ⟨b, off + j * 2 + 1, none⟩) hb).trans c1
      have hlt' : (j : Int) < (S.length : Int) := by omega
      replace hbox := Lib.hid hbox
      gi_wp2
      refine hR.mono ?_
      rintro e W3 (⟨rfl, hJ3, hk3⟩ | ⟨rfl, hJx3⟩)
      · gi_wp2
        go_roundw
        case rel => exact ⟨j, pre ++ [⟨j, hlt⟩], by omega, rfl, by unfold Hid; rw [List.map_append, hpre.out, cmL_step hlt]; rfl, hJ3, hnx.trans hk3.1, hk3.2.trans hbox.out⟩
        case measure => first | (simp [intOf]; done) | (simp [intOf]; omega)
      · gi_wp2
        refine bodyPost_ret (results_none rfl _ _ _) rfl ?_
        exact ⟨⟨_, rfl⟩, .inr ⟨_, trivial, hJx3⟩⟩
theorem bw_stops (F : Fence) (n : Nat) (hF : F.fn 192) (hro : F.round = none) (hn : 1 ≤ n) (Bs n₀ b off cap : Nat) (S : List (ByteArray × Int)) (hl6 : S.length ≤ 6) (hb : b < n₀) (w : World) (hn₀ : n₀ ≤ w.heap.size)
    (hBs : Boxed w Bs 29 (.slice (some ⟨b, off, none⟩) S.length cap))
    (hc : ∀ j, j < S.length → w.cell? ⟨b, off + j * 2, none⟩ = some (.string (nmA S j)) ∧ w.cell? ⟨b, off + j * 2 + 1, none⟩ = some (.int .i64 (lvA S j))) :
    SeqStopsK F n Try.prog 192 #[.pointer (some ⟨Bs, 0, none⟩)] (fun x : BwI S => #[.int .i64 (x.1 : Int), .agg #[.string (nmA S x.1), .int .i64 (lvA S x.1)]]) (KpB n₀ Bs)
      (fun ys => bwM ys = cmL S.length 0) (fun _ => True) S.length w := fun l J Jx W hW _ _ hY h0 =>
  bw1_in F n hF hro hn l Bs n₀ b off cap S hl6 hb J Jx hY W (boxed_below hBs hW) (fun j hj => ⟨(hW.cell (p := ⟨b, off + j * 2, none⟩) (Nat.lt_of_lt_of_le hb hn₀)).trans (hc j hj).1, (hW.cell (p := ⟨b, off + j * 2 + 1, none⟩) (Nat.lt_of_lt_of_le hb hn₀)).trans (hc j hj).2⟩) h0
theorem bw_any (x : Option Addr) (len cap : Nat) (w : World) :
    Calls Try.prog 186 #[.slice x len cap] w fun e w' => e = .returned (.func (.func 192) #[] #[.pointer (some ⟨w.heap.size, 0, none⟩)]) ∧ w' = w.alloc (.cells #[.slice x len cap] 29) := by
  go_enter Try.func186, Try.ntmps186
  go_wp2
  go_ret
  exact ⟨rfl, rfl⟩

theorem row_own {β : Type} (n₀ : Nat) (e : TypeId) (size g cap n : Nat) (f : β → List Value) : Own (fun s W => W.ownsRow n₀ e size (.slice (some ⟨g, 0, none⟩) n cap) n (f s)) := by
  intro s X Y row hr hg hrow
  refine hr.kept hg (.inr fun e' => ?_)
  obtain ⟨o, ho, hc⟩ := hrow g e'.symm
  rcases hr.2 with ⟨h, _⟩ | ⟨g', cap', cur, h', _, hgb, _⟩
  · cases h
  · injection h' with h'
    injection h' with h'
    injection h' with h'
    subst h'
    rw [hgb] at ho
    cases ho
    cases hc
theorem wb_kept {X Y : World} {B : Nat} {t : TypeId} {cs : Array Value} {row : Option Nat} (h : Wb X B t cs) (hg : X.grownBy Y row) (hr : ∀ r, row = some r → ∃ o : Obj, X.heap[r]? = some o ∧ o.isCells = false) : Wb Y B t cs :=
  (hg.block B h.inside (fun e => by
    obtain ⟨o, ho, hc⟩ := hr B e.symm
    rw [show X.heap[B]? = _ from h] at ho
    cases ho
    cases hc)).trans h
theorem boxed_far {W : World} {B : Nat} {t : TypeId} {v : Value} (h : Boxed W B t v) (p : Addr) (hne : B ≠ p.block) (u : Value) : Boxed (W.setCell p u) B t v := (Below.heap_setCell _ _ _ _ hne).trans h
theorem bw_post {w W : World} {n₀ g Bi Bv Bs e n : Nat} {ti tv ts : TypeId} {q : Int} {L : List Int} {vv vs : Value} (B : Nat) (b1 : Boxed W Bi ti (.int .i64 q)) (r1 : W.ownsRow g e 1 (.slice (some ⟨g, 0, none⟩) n n) n (iC L)) (b2 : Boxed W Bv tv vv) (b3 : Boxed W Bs ts vs) (hB : Below n₀ w W)
    (hg : n₀ ≤ g) (h1 : g ≠ Bi) (hBi : n₀ ≤ Bi) (h2 : Bv ≠ g) (h3 : Bs ≠ g) (h4 : Bv ≠ Bi) (h5 : Bs ≠ Bi) (j : Nat) (v q' : Int) :
    KeepsFrom B W (((W.setCell ⟨g, j, none⟩ (.int .i64 v)).setCell ⟨Bi, 0, none⟩ (.int .i64 q')).drew) ∧ KpB n₀ Bs W (((W.setCell ⟨g, j, none⟩ (.int .i64 v)).setCell ⟨Bi, 0, none⟩ (.int .i64 q')).drew) ∧
      ((((Boxed (((W.setCell ⟨g, j, none⟩ (.int .i64 v)).setCell ⟨Bi, 0, none⟩ (.int .i64 q')).drew) Bi ti (.int .i64 q')) ∧ (((W.setCell ⟨g, j, none⟩ (.int .i64 v)).setCell ⟨Bi, 0, none⟩ (.int .i64 q')).drew).ownsRow g e 1 (.slice (some ⟨g, 0, none⟩) n n) n (iC (L.set j v))) ∧ Boxed (((W.setCell ⟨g, j, none⟩ (.int .i64 v)).setCell ⟨Bi, 0, none⟩ (.int .i64 q')).drew) Bv tv vv) ∧ Boxed (((W.setCell ⟨g, j, none⟩ (.int .i64 v)).setCell ⟨Bi, 0, none⟩ (.int .i64 q')).drew) Bs ts vs) ∧ Below n₀ w (((W.setCell ⟨g, j, none⟩ (.int .i64 v)).setCell ⟨Bi, 0, none⟩ (.int .i64 q')).drew) := by
  have a1 := (boxed_far b1 ⟨g, j, none⟩ (Ne.symm h1) (.int .i64 v)).set (.int .i64 q')
  have a2 := boxed_far (boxed_far b2 ⟨g, j, none⟩ h2 (.int .i64 v)) ⟨Bi, 0, none⟩ h4 (.int .i64 q')
  have a3 := boxed_far (boxed_far b3 ⟨g, j, none⟩ h3 (.int .i64 v)) ⟨Bi, 0, none⟩ h5 (.int .i64 q')
  have a4 := (r1.stored j (.int .i64 v)).1.kept (grownBy_setCell' _ Bi (.int .i64 q')) (.inr (fun e => h1 (by injection e)))
  rw [← iC_setA] at a4
  have a5 : Below n₀ W (((W.setCell ⟨g, j, none⟩ (.int .i64 v)).setCell ⟨Bi, 0, none⟩ (.int .i64 q')).drew) := Below.drew (((Below.refl n₀ W).setCell (p := ⟨g, j, none⟩) hg _).setCell (p := ⟨Bi, 0, none⟩) hBi _)
  refine ⟨((((KeepsOthers.setCell _ _ _).trans (KeepsOthers.setCell _ _ _)).trans (KeepsOthers.drew _))).from _, ⟨a5, a3.trans b3.symm⟩, ⟨⟨⟨⟨a1, a4.drew⟩, a2⟩, a3⟩, hB.trans a5⟩⟩
set_option maxHeartbeats 4000000 in
theorem combAt_p (x : Option Addr) (cap : Nat) (S : List (ByteArray × Int)) (i : Int) (w : World) (h : SIn w x cap S) (hs : PtS S) (hxs : S = [] → ∃ b off, x = some ⟨b, off, none⟩ ∧ b < w.heap.size) (h0 : 0 ≤ i) (h1 : i < cnZ S) :
    Calls Try.prog 177 #[.slice x S.length cap, .int .i64 i] w fun e w' => ∃ u, e = .returned u ∧ Ret w w' 3 1 u (atL S i).length (iC (atL S i)) := by
  have hm := h.1
  have hh := Lib.hid h
  have hsh := Lib.hid hs
  clear h
  refine (callsIn_wide (n := 5)).1 ?_
  refine callsIn_of_wp_marks Try.func177 rfl trivial ?_ rfl
  simp only [Try.ntmps177, List.size_toArray, List.length_cons, List.length_nil, Nat.reduceAdd, Nat.reduceSub, Array.replicate_succ, Array.replicate_zero, List.push_toArray, List.append_toArray, List.nil_append, List.cons_append]
  refine wpIn_wide.2 ?_
  obtain ⟨wa, hwa⟩ : ∃ wa, w.alloc (.cells #[.int .i64 i] 3) = wa := ⟨_, rfl⟩
  have hbx : Hid (Boxed wa w.heap.size 3 (.int .i64 i)) := by rw [← hwa]; exact Boxed.new w 3 (.int .i64 i)
  have hB : Below w.heap.size w wa := by rw [← hwa]; exact (by repeat (first | exact Below.refl _ _ | assumption | refine Below.drew ?_ | refine below_drewN ?_ _ | refine Below.alloc' ?_ _ | (refine Below.setCell ?_ (by first | omega | (simp; done) | (simp; omega) | exact Below.size (by assumption) | exact Nat.le_trans (Below.size (by assumption)) (by simp)) _) | (refine Below.via' ?_ (by assumption)) | (refine Below.alloc ?_ (by first | omega | (simp; done) | (simp; omega) | exact Below.size (by assumption) | exact Nat.le_trans (Below.size (by assumption)) (by simp)) _) | (refine Below.via ?_ (by assumption) (by first | omega | (simp; done) | (simp; omega) | exact Below.size (by assumption) | exact Nat.le_trans (Below.size (by assumption)) (by simp)))))
  obtain ⟨i0, hi, hz0, hz1, hz2⟩ := info_parts Try.infoInt
  have hbb : i0.bytes * S.length ≤ 281474976710656 := by rw [hz2]; have := ptS_len hsh.out; omega
  have hmm : S.length ≤ maxLen := by unfold maxLen; omega
  go_wp2_with (at_make; go_loud (refine wpList_make_full _ rfl _ _ 24 rfl wa.heap.size 3 i0 (.int .i64 0) 1 Try.underlying24 hi hz0 hz1 .i64 .i64 _ _ S.length rfl rfl rfl rfl hbb hmm (Nat.le_refl _) (fun w2 hown hgrow => ?_)))
  have hb2 : Below wa.heap.size wa w2 := (Below.refl _ _).grown hgrow (Nat.le_refl _) (by intro k hk; cases hk)
  rw [made_zeros] at hown
  have bI2 := boxed_below hbx.out hb2
  have hB2 : Below w.heap.size w w2 := hB.trans (hb2.mono hB.size)
  have hsl : S.length ≤ 6 := ptS_len hsh.out
  obtain ⟨b, off, rfl, hbl, hcs⟩ : ∃ b off, x = some ⟨b, off, none⟩ ∧ b < w.heap.size ∧ ∀ j, j < S.length → w.cell? ⟨b, off + j * 2, none⟩ = some (.string (nmA S j)) ∧ w.cell? ⟨b, off + j * 2 + 1, none⟩ = some (.int .i64 (lvA S j)) := by
    rcases Nat.eq_zero_or_pos S.length with h0' | hpos
    · obtain ⟨b, off, hx, hb⟩ := hxs (List.length_eq_zero_iff.1 h0')
      exact ⟨b, off, hx, hb, fun j hj => absurd hj (by omega)⟩
    obtain ⟨b, off, _, _, hx, hb, _, _, _⟩ := hh.out.rd.var (i := 0) hpos
    refine ⟨b, off, hx, hb, fun j hj => ?_⟩
    obtain ⟨b', off', nm, lv, hx', _, hSj, c0, c1⟩ := hh.out.rd.var (i := j) hj
    rw [hx] at hx'
    injection hx' with hx'
    injection hx' with e1 e2
    subst e1 e2
    have := at_nm hj
    rw [hSj] at this
    injection this with this
    injection this with e3 e4
    rw [← e3, ← e4]
    exact ⟨c0, c1⟩
  replace hcs := Lib.hid hcs
  clear hgrow hi hz0 hz1 hz2 hbb hmm
  go_wp2_with (go_at_call 186; refine (bw_any _ _ _ _).mono ?_; rintro e w' ⟨rfl, rfl⟩)
  have bI := (bI2.alloc (.cells #[.slice (some ⟨wa.heap.size, 0, none⟩) S.length S.length] 24)).alloc (.cells #[.slice (some ⟨b, off, none⟩) S.length cap] 29)
  have bR := (hown.alloc (.cells #[.slice (some ⟨wa.heap.size, 0, none⟩) S.length S.length] 24)).alloc (.cells #[.slice (some ⟨b, off, none⟩) S.length cap] 29)
  have bV := (Boxed.new w2 24 (.slice (some ⟨wa.heap.size, 0, none⟩) S.length S.length)).alloc (.cells #[.slice (some ⟨b, off, none⟩) S.length cap] 29)
  have bS := Boxed.new (w2.alloc (.cells #[.slice (some ⟨wa.heap.size, 0, none⟩) S.length S.length] 24)) 29 (.slice (some ⟨b, off, none⟩) S.length cap)
  simp only [World.size_alloc] at bS
  have hB0 : Below w.heap.size w ((w2.alloc (.cells #[.slice (some ⟨wa.heap.size, 0, none⟩) S.length S.length] 24)).alloc (.cells #[.slice (some ⟨b, off, none⟩) S.length cap] 29)) := (by repeat (first | exact Below.refl _ _ | assumption | refine Below.drew ?_ | refine below_drewN ?_ _ | refine Below.alloc' ?_ _ | (refine Below.setCell ?_ (by first | omega | (simp; done) | (simp; omega) | exact Below.size (by assumption) | exact Nat.le_trans (Below.size (by assumption)) (by simp)) _) | (refine Below.via' ?_ (by assumption)) | (refine Below.alloc ?_ (by first | omega | (simp; done) | (simp; omega) | exact Below.size (by assumption) | exact Nat.le_trans (Below.size (by assumption)) (by simp)) _) | (refine Below.via ?_ (by assumption) (by first | omega | (simp; done) | (simp; omega) | exact Below.size (by assumption) | exact Nat.le_trans (Below.size (by assumption)) (by simp)))))
  have hsz : ((w2.alloc (.cells #[.slice (some ⟨wa.heap.size, 0, none⟩) S.length S.length] 24)).alloc (.cells #[.slice (some ⟨b, off, none⟩) S.length cap] 29)).heap.size = w2.heap.size + 2 := by simp
  have hgz := (own_lt hown).2
  have hBi := hbx.out.lt
  have hwa := hB.size
  obtain ⟨W0, hW0⟩ : ∃ W0, (w2.alloc (.cells #[.slice (some ⟨wa.heap.size, 0, none⟩) S.length S.length] 24)).alloc (.cells #[.slice (some ⟨b, off, none⟩) S.length cap] 29) = W0 := ⟨_, rfl⟩
  rw [hW0] at bI bR bV bS hB0 hsz ⊢
  clear hW0 hown bI2 hB2
  refine (wpIn_wide (n := 5)).1 ?_
  refine wpIn_rangeFunc_ownH (F := Fence.wide) (n := 5) rfl (by omega) (gf := 192) (lb := #[.pointer (some ⟨w2.heap.size + 1, 0, none⟩)]) rfl trivial (enters_of Try.func192 (by kernel_rfl) rfl)
    (bw_stops Fence.wide 4 trivial rfl (by omega) (w2.heap.size + 1) w.heap.size b off cap S hsl hbl W0 hB0.size bS (fun j hj => ⟨(hB0.cell (p := ⟨b, off + j * 2, none⟩) hbl).trans (hcs.out j hj).1, (hB0.cell (p := ⟨b, off + j * 2 + 1, none⟩) hbl).trans (hcs.out j hj).2⟩))
    (fun h k => ⟨h.1.trans k.1, k.2.trans h.2⟩) (fun W l o o' hl hlo hc hw => ⟨belowK_b hB0.size W l o o' hl hlo hc hw, World.putObj_heap_other (by intro e; omega)⟩) (Below.refl _ _) (fun _ => rfl)
    (fun pre W => ((((Boxed W w.heap.size 3 (.int .i64 (atFr S i (bwM pre)).1)) ∧ W.ownsRow wa.heap.size 3 1 (.slice (some ⟨wa.heap.size, 0, none⟩) S.length S.length) S.length (iC (atFr S i (bwM pre)).2)) ∧ Boxed W w2.heap.size 24 (.slice (some ⟨wa.heap.size, 0, none⟩) S.length S.length)) ∧ Boxed W (w2.heap.size + 1) 29 (.slice (some ⟨b, off, none⟩) S.length cap)) ∧ Below w.heap.size w W)
    (fun _ _ _ => False)
    (OwnFrom.and (OwnFrom.and (OwnFrom.and (OwnFrom.and (Own.from (boxed_own _ _ _) _) (Own.from (row_own _ _ _ _ _ _ _) _)) (Own.from (boxed_own _ _ _) _)) (Own.from (boxed_own _ _ _) _)) (ownFrom_below (Nat.le_refl _) (by omega)))
    (fun _ _ _ _ _ hs _ _ => hs)
    ⟨⟨⟨⟨bI, bR⟩, bV⟩, bS⟩, hB0⟩
    (fun z a' W => ∃ Bx, w2.heap.size + 1 < Bx ∧ Wb W Bx 93 #[.string (nmA S z.1), .int .i64 (lvA S z.1)] ∧ a' = { tmps := #[.slice (some ⟨b, off, none⟩) S.length cap, .int .i64 i, undef, .pointer (some ⟨w.heap.size, 0, none⟩), .slice none 0 0, .pointer (some ⟨w2.heap.size, 0, none⟩), .int .i64 (z.1 : Int), .pointer (some ⟨Bx, 0, none⟩), .slice (some ⟨b, off, none⟩) S.length cap, .int .i64 S.length, .slice (some ⟨wa.heap.size, 0, none⟩) S.length S.length, .slice (some ⟨b, off, none⟩) S.length cap, .func (.func 192) #[] #[.pointer (some ⟨w2.heap.size + 1, 0, none⟩)], .int .i64 (z.1 : Int), .agg #[.string (nmA S z.1), .int .i64 (lvA S z.1)], undef, undef, undef, undef, undef, undef, undef, undef, undef, undef, undef, undef], defers := [] })
    (fun z a' _ X Y row hs hg hr => by obtain ⟨Bx, h1, h2, h3⟩ := hs; exact ⟨Bx, h1, wb_kept h2 hg (fun r e => (hr r e).2), h3⟩)
    ?assign ?body ?done ?stop
  case assign =>
    rintro l pre z W K ⟨⟨⟨⟨b1, r1⟩, b2⟩, b3⟩, hB1⟩ hK
    have h3 := b3.lt
    gi_wp2
    exact hK _ _ ((KeepsOthers.alloc _ _).from _) ⟨(Below.refl _ W).alloc hB1.size _, Below.heap_alloc W _ _ h3⟩ ⟨⟨⟨⟨b1.alloc _, r1.alloc _⟩, b2.alloc _⟩, b3.alloc _⟩, hB1.alloc hB1.size _⟩ ⟨W.heap.size, h3, Wb.new W _ _, rfl⟩
  case body =>
    rintro l pre z a' W hl ⟨r, hr⟩ ⟨⟨⟨⟨b1, r1⟩, b2⟩, b3⟩, hB1⟩ ⟨Bx, hBx, bX, rfl⟩ hlt
    have c1 := b1.cell
    have f1 := b1.frozen
    have c2 := b2.cell
    obtain ⟨u, hu, k0⟩ := own_cell r1 (j := z.1) (by have := z.2; omega)
    have k2 := r1.frozenAt z.1
    have cX : W.cell? ⟨Bx, 1, none⟩ = some (.int .i64 (lvA S z.1)) := bX.read 1
    obtain ⟨l1, l2⟩ := pt_lv hsh.out z.2
    obtain ⟨p0, p1⟩ := pt_atFr hsh.out h0 (bwM pre) (fun j hj => by obtain ⟨y, _, rfl⟩ := List.mem_map.1 hj; exact y.2)
    obtain ⟨-, n2⟩ := pt_cn hsh.out
    have hz := z.2
    have hz' : (z.1 : Int) < (S.length : Int) := by omega
    have hz0 : (0 : Int) ≤ (z.1 : Int) := by omega
    have hst : atFr S i (bwM (pre ++ [z])) = ((atFr S i (bwM pre)).1 / lvA S z.1, (atFr S i (bwM pre)).2.set z.1 ((atFr S i (bwM pre)).1 % lvA S z.1)) := by
      show atFr S i ((pre ++ [z]).map (·.1)) = _
      rw [List.map_append]
      exact atFr_snoc _ _ _ _
    have e1 := Lib.hid (congrArg Prod.fst hst)
    have e2 := Lib.hid (congrArg Prod.snd hst)
    have hpost := Lib.hid (bw_post (Bs := w2.heap.size + 1) W0.heap.size b1 r1 b2 b3 hB1 hwa (by omega) (Nat.le_refl _) (by omega) (by omega) (by omega) (by omega) z.1 ((atFr S i (bwM pre)).1 % lvA S z.1) ((atFr S i (bwM pre)).1 / lvA S z.1))
    clear hst
    have t1 : (atFr S i (bwM pre)).1.tmod (lvA S z.1) = (atFr S i (bwM pre)).1 % lvA S z.1 := Int.tmod_eq_emod_of_nonneg p0
    have t2 : (atFr S i (bwM pre)).1.tdiv (lvA S z.1) = (atFr S i (bwM pre)).1 / lvA S z.1 := Int.tdiv_eq_ediv_of_nonneg p0
    have t3 : wrap64 ((atFr S i (bwM pre)).1 / lvA S z.1) = (atFr S i (bwM pre)).1 / lvA S z.1 := IntWalk.wrap64_in _ (by have := Int.ediv_le_self (lvA S z.1) p0; have := Int.ediv_nonneg p0 (show 0 ≤ lvA S z.1 by omega); omega)
    replace hu := Lib.hid hu
    clear hl hr bX b1 r1 b2 b3 hB1
    gi_wp2
    gi_region
    all_goals
      gi_wp2
      refine ⟨hpost.out.1, hpost.out.2.1, ?_⟩
      simp only [e1.out, e2.out]
      exact hpost.out.2.2
  case done =>
    rintro D ys W hD hys ⟨⟨⟨⟨b1, r1⟩, b2⟩, b3⟩, hB1⟩ hK
    rw [hys] at r1
    have c2 := b2.cell
    have r2 := Lib.hid (ownsRow_putObj r1 (.deferred none) hK rfl)
    clear r1 b1 b2 b3
    go_wp2
    refine ⟨by simp, .inl ⟨_, _, rfl, run_takeDeferred hK, ?_⟩⟩
    refine ⟨.slice (some ⟨wa.heap.size, 0, none⟩) S.length S.length, by simp [results, Try.results177, go_sem], _, rfl, ?_, ?_⟩
    · rw [atL_len]
      exact own_more r2.out hwa
    · exact hB1.trans (belowK_b (w := w) (Nat.le_refl _) W D _ _ (by omega) hK rfl rfl)
  case stop =>
    rintro D c pre W _ _ h _
    exact h.elim
theorem combAt_any (x : Option Addr) (cap : Nat) (S : List (ByteArray × Int)) (i : Int) (w : World) (h : SIn w x cap S) (hs : schB S = true) (h0 : 0 ≤ i) (h1 : i < cnZ S) :
    Calls Try.prog 177 #[.slice x S.length cap, .int .i64 i] w fun e w' => ∃ u, e = .returned u ∧ Ret w w' 3 1 u (atL S i).length (iC (atL S i)) :=
  combAt_p x cap S i w h (Or.inr hs) (fun e => by subst e; cases hs) h0 h1
end Go.Proofs.Ytgkaalonmkcclab
