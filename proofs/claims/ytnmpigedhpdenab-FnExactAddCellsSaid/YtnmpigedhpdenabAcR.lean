/-
  Chapter 8: AddCells: the sums of lists, place by place: the walk.
-/
import Derived.Test.YtnmpigedhpdenabAcQ
import Derived.Test.YtnmpigedhpdenabEdO
namespace Go.Proofs.Ytnmpigedhpdenab
open Go.RowKit Go.Shelf
set_option maxRecDepth 100000
attribute [local go_sem] Oper.semAt_some

theorem own_intA {w : World} {base e g cap n : Nat} {L : List Int} (h : w.ownsRow base e 1 (.slice (some ⟨g, 0, none⟩) n cap) n (iC L)) {j : Nat} (hj : j < n) : w.cell? ⟨g, j, none⟩ = some (.int .i64 (L.getD j 0)) := by
  obtain ⟨u, hu, k⟩ := own_cell h (j := j) (by omega)
  rw [k]
  have e : (iC L)[j]? = (L[j]?).map (fun n => Value.int .i64 n) := by unfold iC; simp
  rw [e] at hu
  rw [List.getD_eq_getElem?_getD]
  cases hq : L[j]? with
  | none => rw [hq] at hu; cases hu
  | some v => rw [hq] at hu; cases hu; rfl
theorem ac_post {w W : World} {n₀ g Bi Bs e n : Nat} {tv : TypeId} {vv : Value} {L : List Int} (B : Nat) (b1 : Boxed W Bi tv vv) (r1 : W.ownsRow g e 1 (.slice (some ⟨g, 0, none⟩) n n) n (iC L)) (hB : Below n₀ w W)
    (hg : n₀ ≤ g) (h1 : Bi ≠ g) (h3 : Bs ≠ g) (j : Nat) (v : Int) :
    KeepsFrom B W (W.setCell ⟨g, j, none⟩ (.int .i64 v)) ∧ KpB n₀ Bs W (W.setCell ⟨g, j, none⟩ (.int .i64 v)) ∧
      ((Boxed (W.setCell ⟨g, j, none⟩ (.int .i64 v)) Bi tv vv ∧ (W.setCell ⟨g, j, none⟩ (.int .i64 v)).ownsRow g e 1 (.slice (some ⟨g, 0, none⟩) n n) n (iC (L.set j v))) ∧ Below n₀ w (W.setCell ⟨g, j, none⟩ (.int .i64 v))) := by
  have a1 := boxed_far b1 ⟨g, j, none⟩ h1 (.int .i64 v)
  have a4 := (r1.stored j (.int .i64 v)).1
  rw [← iC_setA] at a4
  have a5 : Below n₀ W (W.setCell ⟨g, j, none⟩ (.int .i64 v)) := ((Below.refl n₀ W).setCell (p := ⟨g, j, none⟩) hg _)
  exact ⟨(KeepsOthers.setCell _ _ _).from _, ⟨a5, Below.heap_setCell _ _ _ _ h3⟩, ⟨⟨a1, a4⟩, hB.trans a5⟩⟩
theorem zr_bd (n j : Nat) : -1000000 ≤ (List.replicate n (0 : Int)).getD j 0 ∧ (List.replicate n (0 : Int)).getD j 0 ≤ 1000000 := by
  have e : (List.replicate n (0 : Int)).getD j 0 = 0 := by
    rw [List.getD_eq_getElem?_getD, List.getElem?_replicate]
    split <;> rfl
  rw [e]
  omega
theorem ownFrom_obj {β : Type} {B D : Nat} {o : Obj} (hD : D < B) : OwnFrom B (fun (_ : β) W => W.heap[D]? = some o) :=
  fun _ X Y row hs hg hr => (hg.block D (Array.getElem?_eq_some_iff.1 hs).1 (by intro e; have := (hr D e.symm).1; omega)).trans hs
theorem alV_bd {L : List Int} (h : cvB L = true) (j : Nat) : -1000000 ≤ alV L j ∧ alV L j ≤ 1000000 := by
  unfold alV
  rw [List.getD_eq_getElem?_getD]
  cases hq : L[j]? with
  | none => simp
  | some v => exact cv_at h hq
theorem al_cells {w W : World} {x : Option Addr} {L : List Int} (h : IIn w x L) (hb : Below w.heap.size w W) (j : Nat) (hj : j < L.length) : ∃ b off, x = some ⟨b, off, none⟩ ∧ b < w.heap.size ∧ W.cell? ⟨b, off + j, none⟩ = some (.int .i64 (alV L j)) := by
  obtain ⟨bl, off, v, rfl, hbl, hLi, hc0⟩ := h.2.2.int hj
  exact ⟨bl, off, rfl, hbl, by rw [alV_at hLi]; exact (hb.cell (p := ⟨bl, off + j, none⟩) hbl).trans hc0⟩
set_option maxHeartbeats 4000000 in
theorem sums_any (Ba Bb g0 ca cb : Nat) (ya yb : Option Addr) (A B : List Int) (w : World) (hl : A.length = B.length) (hca : cvB A = true) (hcb : cvB B = true) (hA : IIn w ya A) (hB : IIn w yb B) (hba : Boxed w Ba 23 (.slice ya A.length ca)) (hbb : Boxed w Bb 23 (.slice yb B.length cb))
    (hg : g0 < w.heap.size) (hg0 : w.cell? ⟨g0, 0, none⟩ = some (.func (.func 174) #[] #[.pointer (some ⟨Ba, 0, none⟩)])) (hg1 : w.cell? ⟨g0, 1, none⟩ = some (.func (.func 174) #[] #[.pointer (some ⟨Bb, 0, none⟩)])) :
    Calls Try.prog 132 #[.int .i64 A.length, .slice (some ⟨g0, 0, none⟩) 2 2] w fun e w' => ∃ u, e = .returned u ∧ w'.ownsRow w.heap.size 3 1 u A.length (iC (acK A B A.length)) ∧ Below w.heap.size w w' := by
  obtain ⟨i0, hi, hz0, hz1, hz2⟩ := info_parts Try.infoInt
  have hlh := Lib.hid hl
  have hcah := Lib.hid hca
  have hcbh := Lib.hid hcb
  have hAh := Lib.hid hA
  have hBh := Lib.hid hB
  have h6 := cv_len hca
  have hbah := Lib.hid hba
  have hbbh := Lib.hid hbb
  have hg0h := Lib.hid hg0
  have hg1h := Lib.hid hg1
  clear hl hca hcb hA hB hba hbb hg0 hg1
  have hbbt : i0.bytes * A.length ≤ 281474976710656 := by rw [hz2]; omega
  have hmm : A.length ≤ maxLen := by unfold maxLen; omega
  refine (callsIn_wide (n := 5)).1 ?_
  refine callsIn_of_wp_marks Try.func132 rfl trivial ?_ rfl
  simp only [Try.ntmps132, List.size_toArray, List.length_cons, List.length_nil, Nat.reduceAdd, Nat.reduceSub, Array.replicate_succ, Array.replicate_zero, List.push_toArray, List.append_toArray, List.nil_append, List.cons_append]
  refine wpIn_wide.2 ?_
  go_wp2_with (at_make; go_loud (refine wpList_make_full _ rfl _ _ 23 rfl w.heap.size 3 i0 (.int .i64 0) 1 Try.underlying23 hi hz0 hz1 .i64 .i64 _ _ A.length rfl rfl rfl rfl hbbt hmm (Nat.le_refl _) (fun w1 hown hgrow => ?_)))
  have hb1 : Below w.heap.size w w1 := (Below.refl _ _).grown hgrow (Nat.le_refl _) (by intro k hk; cases hk)
  rw [made_zeros] at hown
  clear hgrow hi hz0 hz1 hz2 hbbt hmm
  have hw1 := (own_lt hown).2
  have bV := (Boxed.new w1 23 (.slice (some ⟨w.heap.size, 0, none⟩) A.length A.length))
  have bR := (hown.alloc (.cells #[.slice (some ⟨w.heap.size, 0, none⟩) A.length A.length] 23))
  have hbV := Lib.hid bV
  have hbR := Lib.hid bR
  have hbA : Below w.heap.size w (w1.alloc (.cells #[.slice (some ⟨w.heap.size, 0, none⟩) A.length A.length] 23)) := (by repeat (first | exact Below.refl _ _ | assumption | refine Below.drew ?_ | refine below_drewN ?_ _ | refine Below.alloc' ?_ _ | (refine Below.setCell ?_ (by first | omega | (simp; done) | (simp; omega) | exact Below.size (by assumption) | exact Nat.le_trans (Below.size (by assumption)) (by simp)) _) | (refine Below.via' ?_ (by assumption)) | (refine Below.alloc ?_ (by first | omega | (simp; done) | (simp; omega) | exact Below.size (by assumption) | exact Nat.le_trans (Below.size (by assumption)) (by simp)) _) | (refine Below.via ?_ (by assumption) (by first | omega | (simp; done) | (simp; omega) | exact Below.size (by assumption) | exact Nat.le_trans (Below.size (by assumption)) (by simp)))))
  clear bV bR hown hb1
  go_wp2
  have hg0h' := hg0h.out
  have hbs := hbA.size
  have hBs := hbA
  replace hbA := Lib.hid hbA
  have c0 := (hBs.cell (p := ⟨g0, 0, none⟩) hg).trans hg0h'
  clear hg0h'
  refine wp_loop_rounds 3 ?_
  rw [rounds_succ]
  go_wp2
  have hbs0 := boxed_below hbah.out hBs
  have hB0 := hBs
  have hBa := hbah.out.lt
  have hBb := hbbh.out.lt
  have hs0 : (w1.alloc (.cells #[.slice (some ⟨w.heap.size, 0, none⟩) A.length A.length] 23)).heap.size = w1.heap.size + 1 := by simp
  obtain ⟨W0, hW0⟩ : ∃ W0, w1.alloc (.cells #[.slice (some ⟨w.heap.size, 0, none⟩) A.length A.length] 23) = W0 := ⟨_, rfl⟩
  rw [hW0] at hbV hbR hbs hBs hbA c0 hbs0 hB0 hs0 ⊢
  clear hW0 hbA c0 hBs
  refine (wpIn_wide (n := 5)).1 ?_
  refine wpIn_rangeFunc_ownH (F := Fence.wide) (n := 5) rfl (by omega) (gf := 174) (lb := #[.pointer (some ⟨Ba, 0, none⟩)]) rfl trivial (enters_of Try.func174 (by kernel_rfl) rfl)
    (al_stops Fence.wide 4 trivial rfl (by omega) Ba w.heap.size ca ya A (by omega) W0 hbs hbs0 (al_cells hAh.out hB0))
    (fun h k => ⟨h.1.trans k.1, k.2.trans h.2⟩) (fun W l o o' hl hlo hc hw => ⟨belowK_b (w := w) (Nat.le_refl _) W l o o' (by omega) hlo hc hw, World.putObj_heap_other (by intro e; omega)⟩) (Below.refl _ _) (fun _ => rfl)
    (fun pre W => (Boxed W w1.heap.size 23 (.slice (some ⟨w.heap.size, 0, none⟩) A.length A.length) ∧ W.ownsRow w.heap.size 3 1 (.slice (some ⟨w.heap.size, 0, none⟩) A.length A.length) A.length (iC (acF (List.replicate A.length 0) A (alM pre)))) ∧ Below w.heap.size w W)
    (fun _ _ _ => False)
    (OwnFrom.and (OwnFrom.and (Own.from (boxed_own _ _ _) _) (Own.from (row_own _ _ _ _ _ _ _) _)) (ownFrom_below (Nat.le_refl _) hbs))
    (fun _ _ _ _ _ hs _ _ => hs)
    ⟨⟨hbV.out, hbR.out⟩, hB0⟩
    (fun z a' _ => a' = { tmps := #[.int .i64 A.length, .slice (some ⟨g0, 0, none⟩) 2 2, undef, undef, .slice none 0 0, .pointer (some ⟨w1.heap.size, 0, none⟩), undef, .func (.func 174) #[] #[.pointer (some ⟨Ba, 0, none⟩)], .int .i64 (z.1 : Int), .int .i64 (alV A z.1), .int .i64 A.length, .slice (some ⟨w.heap.size, 0, none⟩) A.length A.length, .slice (some ⟨g0, 0, none⟩) 2 2, .int .i64 2, .int .i64 0, .bool true, .pointer (some ⟨g0, 0, none⟩), .func (.func 174) #[] #[.pointer (some ⟨Ba, 0, none⟩)], .func (.func 174) #[] #[.pointer (some ⟨Ba, 0, none⟩)], .int .i64 (z.1 : Int), .int .i64 (alV A z.1), undef, undef, undef, undef, undef, undef, undef, undef, undef], defers := [] })
    (fun z a' _ X Y row hs hg hr => hs)
    ?assign ?body ?done ?stop
  case assign =>
    rintro l pre z W K ⟨⟨b1, r1⟩, hB1⟩ hK
    gi_wp2
    exact hK _ _ (KeepsFrom.refl _ W) ⟨Below.refl _ _, rfl⟩ ⟨⟨b1, r1⟩, hB1⟩ rfl
  case body =>
    rintro l pre z a' W hl ⟨r, hr⟩ ⟨⟨b1, r1⟩, hB1⟩ rfl hlt
    have c1 := b1.cell
    have hz := z.2
    have hzA : z.1 < A.length := by omega
    have k0 := own_intA r1 hzA
    have k2 := r1.frozenAt z.1
    have q1 := acF_bd (Z := List.replicate A.length 0) (L := A) (zr_bd A.length) (alV_bd hcah.out) (alM pre) z.1
    rw [show (alM pre).length = pre.length from List.length_map _] at q1
    have q2 := alV_bd hcah.out z.1
    have hzi : (z.1 : Int) < (A.length : Int) := by omega
    have t3 : wrap64 ((acF (List.replicate A.length 0) A (alM pre)).getD z.1 0 + alV A z.1) = (acF (List.replicate A.length 0) A (alM pre)).getD z.1 0 + alV A z.1 := IntWalk.wrap64_in _ (by omega)
    have hst : acF (List.replicate A.length 0) A (alM (pre ++ [z])) = (acF (List.replicate A.length 0) A (alM pre)).set z.1 ((acF (List.replicate A.length 0) A (alM pre)).getD z.1 0 + alV A z.1) := by
      show acF (List.replicate A.length 0) A ((pre ++ [z]).map (·.1)) = _
      rw [List.map_append]
      exact acF_snoc _ _ _ _
    have hpost := Lib.hid (ac_post (Bs := Ba) W0.heap.size b1 r1 hB1 (Nat.le_refl _) (by omega) (by omega) z.1 ((acF (List.replicate A.length 0) A (alM pre)).getD z.1 0 + alV A z.1))
    replace hst := Lib.hid hst
    replace t3 := Lib.hid t3
    clear hl hr b1 r1 hB1 q1 q2 hlt
    gi_wp2
    rw [← List.getD_eq_getElem?_getD, t3.out]
    refine ⟨hpost.out.1, hpost.out.2.1, ?_⟩
    simp only [hst.out]
    exact hpost.out.2.2
  case done =>
    rintro D ys W1 hD hys ⟨⟨b1, r1⟩, hB1'⟩ hK
    rw [hys, acF_range _ _ _ (by rw [List.length_replicate]; exact Nat.le_refl _), acK_zero] at r1
    have hbV1 := Lib.hid b1
    have hbR1 := Lib.hid r1
    have hbz := hB1'.size
    have hbs1 := boxed_below hbbh.out hB1'
    have c1 := (hB1'.cell (p := ⟨g0, 1, none⟩) hg).trans hg1h.out
    have hDl : D < W1.heap.size := (Array.getElem?_eq_some_iff.1 hK).1
    have hDw : D ≠ w.heap.size := by omega
    have hDg : w.heap.size ≤ D := by omega
    have hb1l := b1.lt
    have hKh := Lib.hid hK
    clear b1 r1 hys hbV hbR hbs hbs0 hB0 hs0 hD hK
    go_wp2
    rw [rounds_succ]
    go_wp2
    have hK := hKh.out
    refine (wpIn_wide (n := 5)).1 ?_
    refine wpIn_rangeFunc_ownH (F := Fence.wide) (n := 5) rfl (by omega) (gf := 174) (lb := #[.pointer (some ⟨Bb, 0, none⟩)]) rfl trivial (enters_of Try.func174 (by kernel_rfl) rfl)
      (al_stops Fence.wide 4 trivial rfl (by omega) Bb w.heap.size cb yb B (by have := hlh.out; omega) W1 hbz hbs1 (al_cells hBh.out hB1'))
      (fun h k => ⟨h.1.trans k.1, k.2.trans h.2⟩) (fun W l o o' hl hlo hc hw => ⟨belowK_b (w := w) (Nat.le_refl _) W l o o' (by omega) hlo hc hw, World.putObj_heap_other (by intro e; omega)⟩) (Below.refl _ _) (fun _ => rfl)
      (fun pre W => ((Boxed W w1.heap.size 23 (.slice (some ⟨w.heap.size, 0, none⟩) A.length A.length) ∧ W.ownsRow w.heap.size 3 1 (.slice (some ⟨w.heap.size, 0, none⟩) A.length A.length) A.length (iC (acF A B (alM pre)))) ∧ Below w.heap.size w W) ∧ W.heap[D]? = some (.deferred (some [])))
      (fun _ _ _ => False)
      (OwnFrom.and (OwnFrom.and (OwnFrom.and (Own.from (boxed_own _ _ _) _) (Own.from (row_own _ _ _ _ _ _ _) _)) (ownFrom_below (Nat.le_refl _) hbz)) (ownFrom_obj hDl))
      (fun _ _ _ _ _ hs _ _ => hs)
      ⟨⟨⟨hbV1.out, hbR1.out⟩, hB1'⟩, hK⟩
      (fun z a' _ => a' = { tmps := #[.int .i64 A.length, .slice (some ⟨g0, 0, none⟩) 2 2, undef, undef, .slice none 0 0, .pointer (some ⟨w1.heap.size, 0, none⟩), undef, .func (.func 174) #[] #[.pointer (some ⟨Bb, 0, none⟩)], .int .i64 (z.1 : Int), .int .i64 (alV B z.1), .int .i64 A.length, .slice (some ⟨w.heap.size, 0, none⟩) A.length A.length, .slice (some ⟨g0, 0, none⟩) 2 2, .int .i64 2, .int .i64 1, .bool true, .pointer (some ⟨g0, 1, none⟩), .func (.func 174) #[] #[.pointer (some ⟨Bb, 0, none⟩)], .func (.func 174) #[] #[.pointer (some ⟨Bb, 0, none⟩)], .int .i64 (z.1 : Int), .int .i64 (alV B z.1), undef, undef, undef, undef, undef, undef, undef, .int .i64 1, undef], defers := [] })
      (fun z a' _ X Y row hs hg hr => hs)
      ?assign2 ?body2 ?done2 ?stop2
    case assign2 =>
      rintro l pre z W K ⟨⟨⟨b1, r1⟩, hB1⟩, hd1⟩ hK'
      gi_wp2
      exact hK' _ _ (KeepsFrom.refl _ W) ⟨Below.refl _ _, rfl⟩ ⟨⟨⟨b1, r1⟩, hB1⟩, hd1⟩ rfl
    case body2 =>
      rintro l pre z a' W hl ⟨r, hr⟩ ⟨⟨⟨b1, r1⟩, hB1⟩, hd1⟩ rfl hlt
      have c1 := b1.cell
      have hz := z.2
      have hlo := hlh.out
      have hzA : z.1 < A.length := by omega
      have k0 := own_intA r1 hzA
      have k2 := r1.frozenAt z.1
      have q1 := acF_bd (Z := A) (L := B) (fun j => alV_bd hcah.out j) (alV_bd hcbh.out) (alM pre) z.1
      rw [show (alM pre).length = pre.length from List.length_map _] at q1
      have q2 := alV_bd hcbh.out z.1
      have hzi : (z.1 : Int) < (A.length : Int) := by omega
      have t3 : wrap64 ((acF A B (alM pre)).getD z.1 0 + alV B z.1) = (acF A B (alM pre)).getD z.1 0 + alV B z.1 := IntWalk.wrap64_in _ (by omega)
      have hst : acF A B (alM (pre ++ [z])) = (acF A B (alM pre)).set z.1 ((acF A B (alM pre)).getD z.1 0 + alV B z.1) := by
        show acF A B ((pre ++ [z]).map (·.1)) = _
        rw [List.map_append]
        exact acF_snoc _ _ _ _
      have hpost := Lib.hid (ac_post (Bs := Bb) W1.heap.size b1 r1 hB1 (Nat.le_refl _) (by omega) (by omega) z.1 ((acF A B (alM pre)).getD z.1 0 + alV B z.1))
      replace hst := Lib.hid hst
      replace t3 := Lib.hid t3
      have hd2 := Lib.hid hd1
      clear hl hr b1 r1 hB1 q1 q2 hlt hd1 hlo
      gi_wp2
      rw [← List.getD_eq_getElem?_getD, t3.out]
      refine ⟨hpost.out.1, hpost.out.2.1, ?_⟩
      simp only [hst.out]
      exact ⟨hpost.out.2.2, (Below.heap_setCell _ _ _ _ hDw).trans hd2.out⟩
    case done2 =>
      rintro D2 ys2 W hD2 hys2 ⟨⟨⟨b1, r1⟩, hB2⟩, hd1⟩ hK2
      rw [hys2, ← hlh.out, acF_range _ _ _ (Nat.le_refl _)] at r1
      have d1 := b1.cell
      have hr2 := Lib.hid r1
      have hd1h := Lib.hid hd1
      have hK2h := Lib.hid hK2
      clear b1 r1 hys2 hbV1 hbR1 hd1 hK2 hK hKh c1
      go_wp2
      rw [rounds_succ]
      go_wp2
      refine ⟨by simp, .inl ⟨_, _, rfl, run_takeDeferred hK2h.out, ?_⟩⟩
      have hne : D ≠ D2 := by omega
      have hK3 : (W.putObj D2 (.deferred none)).heap[D]? = some (.deferred (some [])) := (World.putObj_heap_other hne).trans hd1h.out
      refine ⟨by simp, .inl ⟨_, _, rfl, run_takeDeferred hK3, ?_⟩⟩
      refine ⟨.slice (some ⟨w.heap.size, 0, none⟩) A.length A.length, by simp [results, Try.results132, go_sem], _, rfl, ?_, ?_⟩
      · exact ownsRow_putObj (ownsRow_putObj hr2.out (.deferred none) hK2h.out rfl) (.deferred none) hK3 rfl
      · exact (hB2.trans (belowK_b (w := w) (Nat.le_refl _) W D2 _ _ (by omega) hK2h.out rfl rfl)).trans (belowK_b (w := w) (Nat.le_refl _) _ D _ _ (by omega) hK3 rfl rfl)
    case stop2 =>
      rintro D c pre W _ _ h _
      exact h.elim
  case stop =>
    rintro D c pre W _ _ h _
    exact h.elim
end Go.Proofs.Ytnmpigedhpdenab
