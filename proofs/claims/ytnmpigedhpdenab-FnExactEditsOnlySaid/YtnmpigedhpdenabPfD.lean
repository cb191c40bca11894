import Derived.Test.YtnmpigedhpdenabPfB
import Derived.Test.YtnmpigedhpdenabPfC
import Derived.Maps.AppendAt
import Derived.WalkMore
import Derived.Test.YtnmpigedhpdenabEdV
namespace Go.Proofs.Ytnmpigedhpdenab
open Go.RowKit Go.Shelf
set_option maxRecDepth 100000
set_option linter.unusedSimpArgs false
attribute [local go_sem] Oper.semAt_some

theorem editsFrom_any (x y : Option Addr) (n1 n2 c1 c2 : Nat) (w : World) :
    Calls Try.prog 203 #[.slice x n1 c1, .slice y n2 c2] w fun e w' => e = .returned (.func (.func 211) #[] #[.pointer (some ⟨w.heap.size + 1, 0, none⟩), .pointer (some ⟨w.heap.size, 0, none⟩)]) ∧ w' = (w.alloc (.cells #[.slice x n1 c1] 54)).alloc (.cells #[.slice y n2 c2] 23) := by
  go_enter Try.func203, Try.ntmps203
  go_wp2
  go_ret
  exact ⟨by simp, rfl⟩
theorem OwL.keep {w w' : World} {lo : Nat} {v : Value} {T : List PR} {r : Option Nat} (h : OwL w lo v T) (hg : w.grownBy w' r) (hr : ∀ k, r = some k → (∃ o : Obj, w.heap[k]? = some o ∧ o.isCells = false) ∨ k < lo) : OwL w' lo v T := by
  have key : ∀ {base e s n : Nat} {u : Value} {xs : List Value}, lo ≤ base → w.ownsRow base e s u n xs → w'.ownsRow base e s u n xs := by
    intro base e s n u xs hb hx
    refine hx.kept hg ?_
    rcases hx.2 with ⟨rfl, _⟩ | ⟨g, cap, cur, rfl, hbg, hgb, _⟩
    · exact .inl rfl
    · refine .inr fun e' => ?_
      rcases hr g e'.symm with ⟨o, ho, hc⟩ | hlt
      · rw [hgb] at ho
        cases ho
        cases hc
      · omega
  exact ⟨key (Nat.le_refl _) h.1, fun q hq => key (Nat.le_refl _) (h.2.1 q hq), h.2.2⟩
/-- What stands in the box of the results so far: behind the iterator's memory. -/
def MxI (S : List (ByteArray × Int)) (P : List Nat) (Bm hi : Nat) (pre : List PR) (X : World) : Prop := ∃ (u : Value) (T : List PR), Boxed X Bm 83 u ∧ OwL X hi u T ∧ eM T = (eM pre).filter (mxB S P) ∧ ∀ p ∈ T, p ∈ pre
theorem OwL.snocN {w1 w2 : World} {lo : Nat} {v v' : Value} {T : List PR} {q : PR} {o : Obj} (h : OwL w1 lo v T) (hg : (w1.alloc o).grownBy w2 v.ownBlock) (hrow : w2.ownsRow lo 153 1 v' (T.length + 1) (eC T ++ eC [q])) (hq : w1.ownsRow lo 3 1 q.v q.L.length (iC q.L)) (hfr : ∀ p ∈ T, ∀ k, p.v.ownBlock = some k → q.v.ownBlock ≠ some k) : OwL w2 lo v' (T ++ [q]) := by
  refine ⟨own_eq hrow (by simp) (by unfold eC; rw [List.map_append]), fun p hp => ?_, ?_⟩
  · rcases List.mem_append.1 hp with h1 | h1
    · exact ((h.2.1 p h1).alloc o).kept hg (rows_apart (h.2.1 p h1) h.1 (by decide))
    · obtain rfl := List.mem_singleton.1 h1
      exact (hq.alloc o).kept hg (rows_apart hq h.1 (by decide))
  · rw [List.filterMap_append, List.nodup_append]
    refine ⟨h.2.2, ?_, ?_⟩
    · cases e : q.v.ownBlock with
      | none => simp [List.filterMap, e]
      | some k => simp [List.filterMap, e]
    · intro a ha b hb
      obtain ⟨p, hp, ep⟩ := List.mem_filterMap.1 ha
      obtain ⟨r, hr, er⟩ := List.mem_filterMap.1 hb
      obtain rfl := List.mem_singleton.1 hr
      rintro rfl
      exact hfr p hp a ep er
theorem mxI_from {S : List (ByteArray × Int)} {P : List Nat} {Bm hi B : Nat} : OwnFrom B (MxI S P Bm hi) := fun pre A C row hs hg hr => by
  obtain ⟨u, T, h1, h2, h3⟩ := hs
  exact ⟨u, T, boxed_own Bm 83 (fun _ : Unit => u) () A C row h1 hg (fun r e => (hr r e).2), h2.keep hg (fun k hk => .inl (hr k hk).2), h3⟩
theorem mxI_gap {S : List (ByteArray × Int)} {P : List Nat} {Bm hi g : Nat} {pre : List PR} {A C : World} (hs : MxI S P Bm hi pre A) (hg : A.grownBy C (some g)) (h1 : g ≠ Bm) (h2 : g < hi) : MxI S P Bm hi pre C := by
  obtain ⟨u, T, k1, k2, k3⟩ := hs
  exact ⟨u, T, k1.kept hg (fun e => h1 (by injection e with e; exact e.symm)), k2.keep hg (fun k hk => .inr (by injection hk with hk; omega)), k3⟩
/-- The list of the maximal edits, handed back. -/
def MfPost (L : List (List Int)) (w : World) (e : Ending) (w' : World) : Prop := ∃ u T, e = .returned u ∧ eM T = L ∧ OwL w' w.heap.size u T ∧ Below w.heap.size w w'
set_option maxHeartbeats 8000000 in
theorem maximalFrom_any (v : Int) (x y : Option Addr) (c1 c2 Bi : Nat) (S : List (ByteArray × Int)) (M : List (List Int)) (N : Nat) (w : World) (hs : schB S = true) (hcn : cnZ S ≤ 100) (hS : SIn w x c1 S) (hL : Rd w y (iC (lwL (bnS S v)))) (hc2 : S.length ≤ c2) (hI : ImIn S M N w Bi) :
    Calls Try.prog 186 #[.slice x S.length c1, .slice y S.length c2, .func (.func 208) #[] #[.pointer (some ⟨Bi, 0, none⟩)]] w (MfPost ((enL (bnS S v)).filter (mxB S (psN S M N))) w) := by
  obtain ⟨j0, hif, hy0, hy1, hy2⟩ := info_parts Try.infoEd
  have hSh := Lib.hid hS
  have hsh := Lib.hid hs
  have hLh := Lib.hid hL
  have hIh := Lib.hid hI
  have hsm := Lib.hid (en_small v hs hcn).2
  refine (callsIn_wide (n := 5)).1 ?_
  refine callsIn_of_wp_marks Try.func186 rfl trivial ?_ rfl
  simp only [Try.ntmps186, List.size_toArray, List.length_cons, List.length_nil, Nat.reduceAdd, Nat.reduceSub, Array.replicate_succ, Array.replicate_zero, List.push_toArray, List.append_toArray, List.nil_append, List.cons_append]
  refine wpIn_wide.2 ?_
  go_wp2
  go_step3
  go_wp2
  go_step3
  go_wp2_with (go_at_call 203; refine (editsFrom_any _ _ _ _ _ _ _).mono ?_; rintro e w' ⟨rfl, rfl⟩)
  have z1 := ((((Boxed.new w 54 (.slice x S.length c1)).alloc (.cells #[.func (.func 208) #[] #[.pointer (some ⟨Bi, 0, none⟩)]] 191)).alloc (.cells #[.slice none 0 0] 83)).alloc (.cells #[.slice x S.length c1] 54)).alloc (.cells #[.slice y S.length c2] 23)
  have z2 := (((Boxed.new (w.alloc (.cells #[.slice x S.length c1] 54)) 191 (.func (.func 208) #[] #[.pointer (some ⟨Bi, 0, none⟩)])).alloc (.cells #[.slice none 0 0] 83)).alloc (.cells #[.slice x S.length c1] 54)).alloc (.cells #[.slice y S.length c2] 23)
  have z3 := ((Boxed.new ((w.alloc (.cells #[.slice x S.length c1] 54)).alloc (.cells #[.func (.func 208) #[] #[.pointer (some ⟨Bi, 0, none⟩)]] 191)) 83 (.slice none 0 0)).alloc (.cells #[.slice x S.length c1] 54)).alloc (.cells #[.slice y S.length c2] 23)
  have z4 := (Boxed.new (((w.alloc (.cells #[.slice x S.length c1] 54)).alloc (.cells #[.func (.func 208) #[] #[.pointer (some ⟨Bi, 0, none⟩)]] 191)).alloc (.cells #[.slice none 0 0] 83)) 54 (.slice x S.length c1)).alloc (.cells #[.slice y S.length c2] 23)
  have z5 := Boxed.new ((((w.alloc (.cells #[.slice x S.length c1] 54)).alloc (.cells #[.func (.func 208) #[] #[.pointer (some ⟨Bi, 0, none⟩)]] 191)).alloc (.cells #[.slice none 0 0] 83)).alloc (.cells #[.slice x S.length c1] 54)) 23 (.slice y S.length c2)
  have hB0 : Below w.heap.size w (((((w.alloc (.cells #[.slice x S.length c1] 54)).alloc (.cells #[.func (.func 208) #[] #[.pointer (some ⟨Bi, 0, none⟩)]] 191)).alloc (.cells #[.slice none 0 0] 83)).alloc (.cells #[.slice x S.length c1] 54)).alloc (.cells #[.slice y S.length c2] 23)) := (by repeat (first | exact Below.refl _ _ | assumption | refine Below.drew ?_ | refine below_drewN ?_ _ | refine Below.alloc' ?_ _ | (refine Below.setCell ?_ (by first | omega | (simp; done) | (simp; omega) | exact Below.size (by assumption) | exact Nat.le_trans (Below.size (by assumption)) (by simp)) _) | (refine Below.via' ?_ (by assumption)) | (refine Below.alloc ?_ (by first | omega | (simp; done) | (simp; omega) | exact Below.size (by assumption) | exact Nat.le_trans (Below.size (by assumption)) (by simp)) _) | (refine Below.via ?_ (by assumption) (by first | omega | (simp; done) | (simp; omega) | exact Below.size (by assumption) | exact Nat.le_trans (Below.size (by assumption)) (by simp)))))
  simp only [World.size_alloc] at z2 z3 z4 z5
  have hsz : (((((w.alloc (.cells #[.slice x S.length c1] 54)).alloc (.cells #[.func (.func 208) #[] #[.pointer (some ⟨Bi, 0, none⟩)]] 191)).alloc (.cells #[.slice none 0 0] 83)).alloc (.cells #[.slice x S.length c1] 54)).alloc (.cells #[.slice y S.length c2] 23)).heap.size = w.heap.size + 5 := by simp
  obtain ⟨W0, hW0⟩ : ∃ W0, (((((w.alloc (.cells #[.slice x S.length c1] 54)).alloc (.cells #[.func (.func 208) #[] #[.pointer (some ⟨Bi, 0, none⟩)]] 191)).alloc (.cells #[.slice none 0 0] 83)).alloc (.cells #[.slice x S.length c1] 54)).alloc (.cells #[.slice y S.length c2] 23)) = W0 := ⟨_, rfl⟩
  rw [hW0] at z1 z2 z3 z4 z5 hB0 hsz ⊢
  have hit := Lib.hid (ef_rows 4 (by omega) v (w.heap.size + 1 + 1 + 1 + 1) (w.heap.size + 1 + 1 + 1) (w.heap.size + 1 + 1) x y c1 c2 S w W0 hs hS hL hc2 hB0 z5 z4 (by omega) (by omega) (by omega))
  clear hW0 z4 z5 hs hS hL hI
  refine (wpIn_wide (n := 5)).1 ?_
  refine range_gap (by omega) (gf := 211) (lb := #[.pointer (some ⟨w.heap.size + 1 + 1 + 1 + 1, 0, none⟩), .pointer (some ⟨w.heap.size + 1 + 1 + 1, 0, none⟩)]) rfl (enters_of Try.func211 (by kernel_rfl) rfl) rfl
    edV (KpG w.heap.size (w.heap.size + 1 + 1)) (EnR S v) (fun ys => eM ys = enL (bnS S v)) hit.out (Below.refl _ _)
    (fun _ _ _ _ h k => h.trans k) (fun hi X l o o' hl hlo hc hw => ⟨belowK_b (w := W0) (by omega) X l o o' hl hlo hc hw, by simp, fun k cs t fz hk _ _ => World.putObj_heap_other (by rintro rfl; rw [hlo] at hk; cases hk; cases hc)⟩)
    (fun hi pre X => (((MxI S (psN S M N) (w.heap.size + 1 + 1) hi pre X ∧ Boxed X w.heap.size 54 (.slice x S.length c1)) ∧ Boxed X (w.heap.size + 1) 191 (.func (.func 208) #[] #[.pointer (some ⟨Bi, 0, none⟩)])) ∧ Below w.heap.size w X) ∧ (W0.heap.size ≤ X.heap.size ∧ W0.heap.size ≤ hi))
    (fun _ _ _ => False)
    (fun hi => OwnFrom.and (OwnFrom.and (OwnFrom.and (OwnFrom.and mxI_from (Own.from (boxed_own _ _ _) _)) (Own.from (boxed_own _ _ _) _)) (ownFrom_below (Nat.le_refl _) (by omega))) (fun _ A B row hs hg _ => ⟨Nat.le_trans hs.1 hg.size, hs.2⟩))
    (fun _ _ _ _ _ hs _ _ => hs)
    (fun hi pre A B g ⟨⟨⟨⟨h1, h2⟩, h3⟩, h4⟩, h5⟩ hg hg1 hg2 => ⟨⟨⟨⟨mxI_gap h1 hg (by omega) hg2, h2.kept hg (fun e => by injection e with e; omega)⟩, h3.kept hg (fun e => by injection e with e; omega)⟩, h4.grown hg h4.size (fun k hk => by injection hk with hk; omega)⟩, ⟨Nat.le_trans h5.1 hg.size, h5.2⟩⟩)
    (fun hi hh => ⟨⟨⟨⟨⟨.slice none 0 0, [], z3, OwL.nil _ _, rfl, fun p hp => by cases hp⟩, z1⟩, z2⟩, hB0⟩, Nat.le_refl _, hh⟩)
    (fun hi pre q a' X => ∃ Bx, (W0.heap.size < Bx ∧ a' = { tmps := #[.slice x S.length c1, .slice y S.length c2, .func (.func 208) #[] #[.pointer (some ⟨Bi, 0, none⟩)], .pointer (some ⟨w.heap.size, 0, none⟩), undef, .pointer (some ⟨w.heap.size + 1, 0, none⟩), .slice none 0 0, .pointer (some ⟨w.heap.size + 1 + 1, 0, none⟩), .pointer (some ⟨Bx, 0, none⟩), undef, undef, undef, .slice x S.length c1, .slice y S.length c2, .func (.func 211) #[] #[.pointer (some ⟨w.heap.size + 1 + 1 + 1 + 1, 0, none⟩), .pointer (some ⟨w.heap.size + 1 + 1 + 1, 0, none⟩)], edV q, undef, undef, undef, undef, undef, undef, undef, undef, undef, undef, undef, undef, undef, undef, undef, undef, undef, undef, undef, undef, undef, undef, undef, undef, undef, undef, undef, undef, undef, undef, undef, undef, undef, undef, undef, undef, undef, undef, undef], defers := [] } ∧ (∃ post, enL (bnS S v) = eM pre ++ q.L :: post) ∧ ∀ p ∈ pre, ∀ k, p.v.ownBlock = some k → q.v.ownBlock ≠ some k) ∧ Wb X Bx 153 #[q.v] ∧ X.ownsRow hi 3 1 q.v q.L.length (iC q.L))
    (fun hi pre q a' _ A B row hs hg hr => by obtain ⟨Bx, h1, h2, h3⟩ := hs; exact ⟨Bx, h1, wb_kept h2 hg (fun r e => (hr r e).2), own_cells h3 hg (fun r e => (hr r e).2)⟩)
    ?assign ?body ?done ?stop
  case assign =>
    rintro hi l pre ⟨qa, qh, qx, qc, qL⟩ X K hhi ⟨⟨⟨⟨hM1, h2⟩, h3⟩, h4⟩, h5, h6⟩ ⟨hpost, hrow, hhX⟩ hK
    simp only [edV, PR.v] at hrow ⊢
    obtain ⟨u, T, k1, k2, k3⟩ := hM1
    have k3h := Lib.hid k3
    have hph := Lib.hid hpost
    have hax : Below X.heap.size X (X.alloc (.cells #[.slice qx qL.length qc] 153)) := (Below.refl _ X).alloc (Nat.le_refl _) _
    have hKh := Lib.hid hK
    have a1 := hK
    clear k3 hpost hK a1
    gi_wp2
    refine hKh.out _ _ ((KeepsOthers.alloc _ _).from _) ⟨(Below.refl _ X).alloc h4.size _, by simp, fun k cs t fz hk _ _ => Below.heap_alloc X _ _ (Array.getElem?_eq_some_iff.1 hk).1⟩ ⟨⟨⟨⟨⟨u, T, k1.alloc _, k2.below hax, k3h.out⟩, h2.alloc _⟩, h3.alloc _⟩, h4.alloc h4.size _⟩, Nat.le_trans h5 (by simp), h6⟩ ⟨X.heap.size, ⟨by omega, rfl, hph.out⟩, Wb.new X _ _, hrow.alloc _⟩
  case body =>
    rintro hi l pre ⟨qa, qh, qx, qc, qL⟩ a' X hhi hl ⟨r, hr⟩ ⟨⟨⟨⟨hM1, h2⟩, h3⟩, h4⟩, h5, h6⟩ ⟨Bx, ⟨hBx, rfl, hpost, hnd⟩, hWb, hrow⟩
    simp only [edV, PR.v] at hrow hWb ⊢
    dsimp only at hpost
    have hed : edB S qL = true := by
      obtain ⟨post, hp⟩ := hpost
      exact en_ed (v := v) hsh.out (by rw [hp]; exact List.mem_append_right _ (List.mem_cons_self ..))
    have hlT : (eM pre).length < 1000000 := by
      obtain ⟨post, hp⟩ := hpost
      have h0 := hsm.out
      rw [hp, List.length_append, List.length_cons] at h0
      omega
    obtain ⟨gq, cq, eq0⟩ := own_some hrow (by have h0 := ed_len hed; have := (schB_len hsh.out).1; omega)
    injection eq0 with eq1 _ eq3
    subst eq1
    subst eq3
    have hqin := Lib.hid (ed_iin hsh.out hed (Rd.of_own hrow))
    have hIX := Lib.hid (hIh.out.below h4)
    have e2 := h2.cell
    have e3 := h3.cell
    have e8 := hWb.read 0
    have e8i := hWb.inside
    have him := Lib.hid (implied1_any Bi (some ⟨gq, 0, none⟩) qc S M N qL X hsh.out hed hIX.out hqin.out)
    have hedh := Lib.hid hed
    have hM1h := Lib.hid hM1
    have h2h := Lib.hid h2
    have h3h := Lib.hid h3
    have h4h := Lib.hid h4
    have hWbh := Lib.hid hWb
    have hrowh := Lib.hid hrow
    have hndh := Lib.hid hnd
    clear hpost hed hM1 h2 h3 h4 hWb hrow hit hl hr hnd
    gi_wp2_with fail
    refine ⟨trivial, ?_⟩
    refine (CallsIn.inRound l (callsIn_wide.2 him.out)).mono ?_
    rintro e X2 ⟨rfl, hb2⟩
    cases hv : imV S (psN S M N) qL
    · have hmx := mx_no1 hv
      gi_wp2
      refine rowPost_on (KeepsFrom.of_grownBy (grown_belowE hb2) (by intro j hj; cases hj)) ⟨(hb2).mono h4h.out.size, (hb2).size, fun k cs t fz hk _ _ => (hb2).block k (Array.getElem?_eq_some_iff.1 hk).1⟩ ⟨⟨⟨⟨?_, boxed_below h2h.out hb2⟩, boxed_below h3h.out hb2⟩, h4h.out.trans ((hb2).mono h4h.out.size)⟩, Nat.le_trans h5 (hb2).size, h6⟩
      obtain ⟨u, T, k1, k2, k3, k4⟩ := hM1h.out
      refine ⟨u, T, boxed_below k1 hb2, k2.below hb2, ?_, fun p hp => List.mem_append_left _ (k4 p hp)⟩
      rw [eM_app, List.filter_append, k3]
      show _ = _ ++ List.filter _ [qL]
      rw [List.filter_cons_of_neg (by rw [hmx]; exact Bool.false_ne_true), List.filter_nil, List.append_nil]
    · obtain ⟨b0, off0, hxe, hb0, hcs⟩ := sin_box hSh.out hsh.out
      subst hxe
      have hcsh := Lib.hid hcs
      have hlq := Lib.hid (ed_len hedh.out)
      have hl6 := (schB_len hsh.out).2
      have hvh := Lib.hid hv
      have g2 := (boxed_below h2h.out hb2).cell
      have hXX := hb2.size
      clear hcs him e2 e3 e8 hv
      gi_wp2
      gi_loopw [22] (fun q2 wr => ∃ i : Nat, i ≤ S.length ∧ q2 = .int .i64 i ∧ Hid (∀ j, j < i → grI S (psN S M N) qL j = false) ∧ Below X.heap.size X wr) (fun q2 _ => S.length - (intOf q2).toNat)
      case atStart => exact ⟨0, by omega, rfl, (fun j hj => absurd hj (by omega)), hb2⟩
      case round =>
        clear hb2 g2 hXX
        obtain ⟨i, hi', rfl, hall, hbr⟩ := hrel
        obtain ⟨wo, rfl⟩ : ∃ q : World, q = wr := ⟨_, rfl⟩
        by_cases hlt : i < S.length
        · obtain ⟨l1, l2⟩ := lvA_bd hsh.out hlt
          obtain ⟨s0, s1⟩ := hcsh.out i hlt
          have hBw : Below w.heap.size w wo := h4h.out.trans (hbr.mono h4h.out.size)
          have hc0 := (hBw.cell (p := ⟨b0, off0 + i * 2, none⟩) hb0).trans s0
          have hc1 := (hBw.cell (p := ⟨b0, off0 + i * 2 + 1, none⟩) hb0).trans s1
          have hb0' : b0 < wo.heap.size := by have := hBw.size; omega
          have hlt' : (i : Int) < (S.length : Int) := by omega
          have hi0 : (0 : Int) ≤ (i : Int) := by omega
          clear s0 s1
          gi_wp2
          clear hc0 hc1 hb0'
          gi_loopw [29] (fun q3 wr2 => ∃ l0 : Nat, (l0 : Int) ≤ lvA S i ∧ q3 = .int .i64 l0 ∧ Hid (∀ l', l' < l0 → grA S (psN S M N) qL i l' = false) ∧ Below X.heap.size X wr2) (fun q3 _ => (lvA S i).toNat - (intOf q3).toNat)
          case atStart => exact ⟨0, by omega, rfl, (fun j hj => absurd hj (by omega)), hbr.alloc hbr.size _⟩
          case round =>
            clear hbr hBw
            obtain ⟨l0, hl0, rfl, hgl, hbr2⟩ := hrel
            obtain ⟨wp, rfl⟩ : ∃ q : World, q = wr := ⟨_, rfl⟩
            by_cases hll : (l0 : Int) < lvA S i
            · obtain ⟨nm, lv, x, _, hxq, hx0, hx1, _, _, hx2⟩ := ed_at hsh.out hedh.out (i := i) hlt
              have hx255 : 0 ≤ x ∧ x ≤ 255 := by omega
              have hcz : qL.length ≤ qc := by
                obtain ⟨_, _, e, h, _⟩ := (OwR.of hrowh.out).form
                injection e with _ _ e
                omega
              have hhl : Hid (∀ W : World, Calls Try.prog 204 #[.int .i64 x, .int .i64 (l0 : Int)] W fun e w' => e = .returned (.bool (hsB x l0)) ∧ W = w') := fun W => hasLevel_any x l0 W hx255.1 hx255.2 (by omega) (by omega)
              have hwl : Hid (∀ W : World, Below X.heap.size X W → Calls Try.prog 205 #[.agg #[.slice (some ⟨gq, 0, none⟩) qL.length qc], .int .i64 (i : Int), .int .i64 (l0 : Int)] W (WlPost (wlL qL i l0).length (wlL qL i l0) W)) := fun W hW => (withLevel_any (some ⟨gq, 0, none⟩) qc S qL i l0 W hsh.out hedh.out hlt hll (Rd.of_own (own_below hrowh.out hW)) hcz).mono (by rintro e w3 ⟨u, c, rfl, h1, h2⟩; exact ⟨u, c, by rw [wl_len], by rw [wl_len]; exact h1, h2⟩)
              have hi3 : Hid (∀ (W : World) (u : Option Addr) (c B : Nat), Below X.heap.size X W → W.ownsRow B 3 1 (.slice u (wlL qL i l0).length c) (wlL qL i l0).length (iC (wlL qL i l0)) → Calls Try.prog 208 #[.agg #[.slice u (wlL qL i l0).length c], .pointer (some ⟨Bi, 0, none⟩)] W fun e w' => e = .returned (.bool (imV S (psN S M N) (wlL qL i l0))) ∧ Below W.heap.size W w') := fun W u c B hW hown => implied1_any Bi u c S M N (wlL qL i l0) W hsh.out (wl_ed hsh.out hedh.out hlt hll) (hIX.out.below hW) (ed_iin hsh.out (wl_ed hsh.out hedh.out hlt hll) (Rd.of_own hown))
              have p5 := (boxed_below h3h.out hbr2).cell
              have p8w := wb_kept hWbh.out (grown_belowE hbr2) (by intro r e; cases e)
              have p8 := p8w.read 0
              have p8i := p8w.inside
              have pq := own_below hrowh.out hbr2
              obtain ⟨u3, hu3, pc⟩ := own_cell pq (j := i) (by have := hlq.out; omega)
              obtain rfl : u3 = .int .i64 x := Option.some.inj (hu3.symm.trans (iC_at hxq))
              have pgi := (own_lt pq).2
              have hiq : (i : Int) < (qL.length : Int) := by have := hlq.out; omega
              have hbr2h := Lib.hid hbr2
              have hxqh := Lib.hid hxq
              clear hbr2 p8w pq hu3 hxq
              gi_wp2
              gi_cut [47, 49, 50, 51, 52, 53, 54] from 32 (fun s47 s49 s50 s51 s52 s53 s54 wx => (s47 = .bool (grA S (psN S M N) qL i l0) ∧ Below X.heap.size X wx) ∧ s49 = u49 ∧ s50 = undef ∧ s51 = undef ∧ s52 = undef ∧ s53 = undef ∧ s54 = undef)
              case first =>
                have hBp : Below X.heap.size X wp := hbr2h.out
                cases hh : hsB x (l0 : Int)
                · have hgv := Lib.hid (grA_not (S := S) (P := psN S M N) hxqh.out hh)
                  rw [hh] at hhl
                  refine wpIn_region_heldN (S := fun W => Below wp.heap.size wp W) (by kernel_rfl) (by kernel_rfl) (Below.drew (Below.refl _ _)) (fun hHeld => ?_)
                  refine wpAnyH_take (i := 0) (v := ?_) rfl (by kernel_rfl) (by kernel_rfl) (by kernel_rfl) (fun _ _ _ h => h) (Or.inl ⟨by rfl, ?_⟩) (by assumption) ?_
                  rotate_left
                  · intro wz hz
                    have f5 := (hz.cell (p := ⟨w.heap.size + 1, 0, none⟩) (by dsimp only; omega)).trans p5
                    have f8 := (hz.cell (p := ⟨Bx, 0, none⟩) (by dsimp only; omega)).trans p8
                    have fc := (hz.cell (p := ⟨gq, i, none⟩) (by dsimp only; omega)).trans pc
                    clear hz
                    go_simp
                    try with_reducible rfl
                  (try simp only [Act.put, List.getElem_toArray, List.getElem_cons_succ, List.getElem_cons_zero, List.setIfInBounds_toArray, List.set_cons_zero, List.set_cons_succ])
                  refine wpAnyH_take (i := 1) (v := ?_) rfl (by kernel_rfl) (by kernel_rfl) (by kernel_rfl) (fun _ _ _ h => h) (Or.inl ⟨by rfl, ?_⟩) (by assumption) ?_
                  rotate_left
                  · intro wz hz
                    have f5 := (hz.cell (p := ⟨w.heap.size + 1, 0, none⟩) (by dsimp only; omega)).trans p5
                    have f8 := (hz.cell (p := ⟨Bx, 0, none⟩) (by dsimp only; omega)).trans p8
                    have fc := (hz.cell (p := ⟨gq, i, none⟩) (by dsimp only; omega)).trans pc
                    clear hz
                    go_simp
                    try with_reducible rfl
                  (try simp only [Act.put, List.getElem_toArray, List.getElem_cons_succ, List.getElem_cons_zero, List.setIfInBounds_toArray, List.set_cons_zero, List.set_cons_succ])
                  refine wpAnyH_take (i := 2) (v := ?_) rfl (by kernel_rfl) (by kernel_rfl) (by kernel_rfl) (fun _ _ _ h => h) (Or.inl ⟨by rfl, ?_⟩) (by assumption) ?_
                  rotate_left
                  · intro wz hz
                    have f5 := (hz.cell (p := ⟨w.heap.size + 1, 0, none⟩) (by dsimp only; omega)).trans p5
                    have f8 := (hz.cell (p := ⟨Bx, 0, none⟩) (by dsimp only; omega)).trans p8
                    have fc := (hz.cell (p := ⟨gq, i, none⟩) (by dsimp only; omega)).trans pc
                    clear hz
                    go_simp
                    try with_reducible rfl
                  (try simp only [Act.put, List.getElem_toArray, List.getElem_cons_succ, List.getElem_cons_zero, List.setIfInBounds_toArray, List.set_cons_zero, List.set_cons_succ])
                  refine wpAnyH_take (i := 3) (v := ?_) rfl (by kernel_rfl) (by kernel_rfl) (by kernel_rfl) (fun _ _ _ h => h) (Or.inl ⟨by rfl, ?_⟩) (by assumption) ?_
                  rotate_left
                  · intro wz hz
                    have f5 := (hz.cell (p := ⟨w.heap.size + 1, 0, none⟩) (by dsimp only; omega)).trans p5
                    have f8 := (hz.cell (p := ⟨Bx, 0, none⟩) (by dsimp only; omega)).trans p8
                    have fc := (hz.cell (p := ⟨gq, i, none⟩) (by dsimp only; omega)).trans pc
                    clear hz
                    go_simp
                    try with_reducible rfl
                  (try simp only [Act.put, List.getElem_toArray, List.getElem_cons_succ, List.getElem_cons_zero, List.setIfInBounds_toArray, List.set_cons_zero, List.set_cons_succ])
                  refine wpAnyH_take (i := 4) (v := ?_) rfl (by kernel_rfl) (by kernel_rfl) (by kernel_rfl) (fun _ _ _ h => h) (Or.inl ⟨by rfl, ?_⟩) (by assumption) ?_
                  rotate_left
                  · intro wz hz
                    have f5 := (hz.cell (p := ⟨w.heap.size + 1, 0, none⟩) (by dsimp only; omega)).trans p5
                    have f8 := (hz.cell (p := ⟨Bx, 0, none⟩) (by dsimp only; omega)).trans p8
                    have fc := (hz.cell (p := ⟨gq, i, none⟩) (by dsimp only; omega)).trans pc
                    clear hz
                    go_simp
                    try with_reducible rfl
                  (try simp only [Act.put, List.getElem_toArray, List.getElem_cons_succ, List.getElem_cons_zero, List.setIfInBounds_toArray, List.set_cons_zero, List.set_cons_succ])
                  refine wpAnyH_take (i := 5) (v := ?_) rfl (by kernel_rfl) (by kernel_rfl) (by kernel_rfl) (fun _ _ _ h => h) (Or.inl ⟨by rfl, ?_⟩) (by assumption) ?_
                  rotate_left
                  · intro wz hz
                    have f5 := (hz.cell (p := ⟨w.heap.size + 1, 0, none⟩) (by dsimp only; omega)).trans p5
                    have f8 := (hz.cell (p := ⟨Bx, 0, none⟩) (by dsimp only; omega)).trans p8
                    have fc := (hz.cell (p := ⟨gq, i, none⟩) (by dsimp only; omega)).trans pc
                    clear hz
                    go_simp
                    try with_reducible rfl
                  (try simp only [Act.put, List.getElem_toArray, List.getElem_cons_succ, List.getElem_cons_zero, List.setIfInBounds_toArray, List.set_cons_zero, List.set_cons_succ])
                  refine wpAnyH_ready (rs := [6]) (by kernel_rfl) (by simp) (AllReadyH.cons rfl (fun K hK => ?_) AllReadyH.nil)
                  go_simp
                  refine (hhl.out _).mono ?_
                  rintro e wz ⟨rfl, rfl⟩
                  refine hK.out _ _ hHeld (fun _ => ?_)
                  clear hK K
                  (try simp only [Act.put, List.getElem_toArray, List.getElem_cons_succ, List.getElem_cons_zero, List.setIfInBounds_toArray, List.set_cons_zero, List.set_cons_succ])
                  refine wpAnyH_take (i := 7) (v := ?_) rfl (by kernel_rfl) (by kernel_rfl) (by kernel_rfl) (fun _ _ _ h => h) (Or.inl ⟨by rfl, ?_⟩) (by assumption) ?_
                  rotate_left
                  · intro wz hz
                    have f5 := (hz.cell (p := ⟨w.heap.size + 1, 0, none⟩) (by dsimp only; omega)).trans p5
                    have f8 := (hz.cell (p := ⟨Bx, 0, none⟩) (by dsimp only; omega)).trans p8
                    have fc := (hz.cell (p := ⟨gq, i, none⟩) (by dsimp only; omega)).trans pc
                    clear hz
                    go_simp
                    try with_reducible rfl
                  (try simp only [Act.put, List.getElem_toArray, List.getElem_cons_succ, List.getElem_cons_zero, List.setIfInBounds_toArray, List.set_cons_zero, List.set_cons_succ])
                  refine wpAnyH_take (i := 8) (v := ?_) rfl (by kernel_rfl) (by kernel_rfl) (by kernel_rfl) (fun _ _ _ h => h) (Or.inl ⟨by rfl, ?_⟩) (by assumption) ?_
                  rotate_left
                  · intro wz hz
                    have f5 := (hz.cell (p := ⟨w.heap.size + 1, 0, none⟩) (by dsimp only; omega)).trans p5
                    have f8 := (hz.cell (p := ⟨Bx, 0, none⟩) (by dsimp only; omega)).trans p8
                    have fc := (hz.cell (p := ⟨gq, i, none⟩) (by dsimp only; omega)).trans pc
                    clear hz
                    go_simp
                    try with_reducible rfl
                  (try simp only [Act.put, List.getElem_toArray, List.getElem_cons_succ, List.getElem_cons_zero, List.setIfInBounds_toArray, List.set_cons_zero, List.set_cons_succ])
                  refine wpAnyH_take (i := 9) (v := ?_) rfl (by kernel_rfl) (by kernel_rfl) (by kernel_rfl) (fun _ _ _ h => h) (Or.inl ⟨by rfl, ?_⟩) (by assumption) ?_
                  rotate_left
                  · intro wz hz
                    have f5 := (hz.cell (p := ⟨w.heap.size + 1, 0, none⟩) (by dsimp only; omega)).trans p5
                    have f8 := (hz.cell (p := ⟨Bx, 0, none⟩) (by dsimp only; omega)).trans p8
                    have fc := (hz.cell (p := ⟨gq, i, none⟩) (by dsimp only; omega)).trans pc
                    clear hz
                    go_simp
                    try with_reducible rfl
                  (try simp only [Act.put, List.getElem_toArray, List.getElem_cons_succ, List.getElem_cons_zero, List.setIfInBounds_toArray, List.set_cons_zero, List.set_cons_succ])
                  refine wpAnyH_take (i := 10) (v := ?_) rfl (by kernel_rfl) (by kernel_rfl) (by kernel_rfl) (fun _ _ _ h => h) (Or.inl ⟨by rfl, ?_⟩) (by assumption) ?_
                  rotate_left
                  · intro wz hz
                    have f5 := (hz.cell (p := ⟨w.heap.size + 1, 0, none⟩) (by dsimp only; omega)).trans p5
                    have f8 := (hz.cell (p := ⟨Bx, 0, none⟩) (by dsimp only; omega)).trans p8
                    have fc := (hz.cell (p := ⟨gq, i, none⟩) (by dsimp only; omega)).trans pc
                    clear hz
                    go_simp
                    try with_reducible rfl
                  (try simp only [Act.put, List.getElem_toArray, List.getElem_cons_succ, List.getElem_cons_zero, List.setIfInBounds_toArray, List.set_cons_zero, List.set_cons_succ])
                  refine wpAnyH_take (i := 11) (v := ?_) rfl (by kernel_rfl) (by kernel_rfl) (by kernel_rfl) (fun _ _ _ h => h) (Or.inl ⟨by rfl, ?_⟩) (by assumption) ?_
                  rotate_left
                  · intro wz hz
                    have f5 := (hz.cell (p := ⟨w.heap.size + 1, 0, none⟩) (by dsimp only; omega)).trans p5
                    have f8 := (hz.cell (p := ⟨Bx, 0, none⟩) (by dsimp only; omega)).trans p8
                    have fc := (hz.cell (p := ⟨gq, i, none⟩) (by dsimp only; omega)).trans pc
                    clear hz
                    go_simp
                    try with_reducible rfl
                  (try simp only [Act.put, List.getElem_toArray, List.getElem_cons_succ, List.getElem_cons_zero, List.setIfInBounds_toArray, List.set_cons_zero, List.set_cons_succ])
                  refine wpAnyH_take (i := 12) (v := ?_) rfl (by kernel_rfl) (by kernel_rfl) (by kernel_rfl) (fun _ _ _ h => h) (Or.inl ⟨by rfl, ?_⟩) (by assumption) ?_
                  rotate_left
                  · intro wz hz
                    have f5 := (hz.cell (p := ⟨w.heap.size + 1, 0, none⟩) (by dsimp only; omega)).trans p5
                    have f8 := (hz.cell (p := ⟨Bx, 0, none⟩) (by dsimp only; omega)).trans p8
                    have fc := (hz.cell (p := ⟨gq, i, none⟩) (by dsimp only; omega)).trans pc
                    clear hz
                    go_simp
                    try with_reducible rfl
                  (try simp only [Act.put, List.getElem_toArray, List.getElem_cons_succ, List.getElem_cons_zero, List.setIfInBounds_toArray, List.set_cons_zero, List.set_cons_succ])
                  refine wpAnyH_ready (rs := [13]) (by kernel_rfl) (by simp) (AllReadyH.cons rfl (fun K hK => ?_) AllReadyH.nil)
                  go_simp
                  refine (hwl.out _ (hBp.trans (hHeld.mono hBp.size))).mono ?_
                  rintro e wz ⟨u, c, rfl, hown, hbz⟩
                  refine hK.out _ _ (hHeld.trans (hbz.mono hHeld.size)) (fun hHeld2 => ?_)
                  clear hK K
                  (try simp only [Act.put, List.getElem_toArray, List.getElem_cons_succ, List.getElem_cons_zero, List.setIfInBounds_toArray, List.set_cons_zero, List.set_cons_succ])
                  refine wpAnyH_ready (rs := [14]) (by kernel_rfl) (by simp) (AllReadyH.cons rfl (fun K hK => ?_) AllReadyH.nil)
                  go_simp
                  refine (hi3.out _ _ _ _ (hBp.trans (hHeld2.mono hBp.size)) hown).mono ?_
                  rintro e wy ⟨rfl, hby⟩
                  refine hK.out _ _ (hHeld2.trans (hby.mono hHeld2.size)) (fun hHeld3 => ?_)
                  clear hK K
                  (try simp only [Act.put, List.getElem_toArray, List.getElem_cons_succ, List.getElem_cons_zero, List.setIfInBounds_toArray, List.set_cons_zero, List.set_cons_succ])
                  refine wpAnyH_take (i := 15) (v := ?_) rfl (by kernel_rfl) (by kernel_rfl) (by kernel_rfl) (fun _ _ _ h => h) (Or.inl ⟨by rfl, ?_⟩) (by assumption) ?_
                  rotate_left
                  · intro wz hz
                    have f5 := (hz.cell (p := ⟨w.heap.size + 1, 0, none⟩) (by dsimp only; omega)).trans p5
                    have f8 := (hz.cell (p := ⟨Bx, 0, none⟩) (by dsimp only; omega)).trans p8
                    have fc := (hz.cell (p := ⟨gq, i, none⟩) (by dsimp only; omega)).trans pc
                    clear hz
                    go_simp
                    try with_reducible rfl
                  (try simp only [Act.put, List.getElem_toArray, List.getElem_cons_succ, List.getElem_cons_zero, List.setIfInBounds_toArray, List.set_cons_zero, List.set_cons_succ])
                  refine wpAnyH_done (by kernel_rfl) ?_ _
                  refine OnlyN.normal ?_
                  gi_wp2_with fail
                  gi_meet
                  exact ⟨⟨by rw [hgv.out], hBp.trans (hHeld3.mono hBp.size)⟩, rfl, rfl, rfl, rfl, rfl, rfl⟩
                · have hgv : Hid (grA S (psN S M N) qL i l0 = false) := by
                    unfold Hid grA
                    rw [List.getD_eq_getElem?_getD, hxqh.out]
                    show (!hsB x (l0 : Int) && _) = _
                    rw [hh]
                    rfl
                  rw [hh] at hhl
                  refine wpIn_region_heldN (S := fun W => Below wp.heap.size wp W) (by kernel_rfl) (by kernel_rfl) (Below.drew (Below.refl _ _)) (fun hHeld => ?_)
                  refine wpAnyH_take (i := 0) (v := ?_) rfl (by kernel_rfl) (by kernel_rfl) (by kernel_rfl) (fun _ _ _ h => h) (Or.inl ⟨by rfl, ?_⟩) (by assumption) ?_
                  rotate_left
                  · intro wz hz
                    have f5 := (hz.cell (p := ⟨w.heap.size + 1, 0, none⟩) (by dsimp only; omega)).trans p5
                    have f8 := (hz.cell (p := ⟨Bx, 0, none⟩) (by dsimp only; omega)).trans p8
                    have fc := (hz.cell (p := ⟨gq, i, none⟩) (by dsimp only; omega)).trans pc
                    clear hz
                    go_simp
                    try with_reducible rfl
                  (try simp only [Act.put, List.getElem_toArray, List.getElem_cons_succ, List.getElem_cons_zero, List.setIfInBounds_toArray, List.set_cons_zero, List.set_cons_succ])
                  refine wpAnyH_take (i := 1) (v := ?_) rfl (by kernel_rfl) (by kernel_rfl) (by kernel_rfl) (fun _ _ _ h => h) (Or.inl ⟨by rfl, ?_⟩) (by assumption) ?_
                  rotate_left
                  · intro wz hz
                    have f5 := (hz.cell (p := ⟨w.heap.size + 1, 0, none⟩) (by dsimp only; omega)).trans p5
                    have f8 := (hz.cell (p := ⟨Bx, 0, none⟩) (by dsimp only; omega)).trans p8
                    have fc := (hz.cell (p := ⟨gq, i, none⟩) (by dsimp only; omega)).trans pc
                    clear hz
                    go_simp
                    try with_reducible rfl
                  (try simp only [Act.put, List.getElem_toArray, List.getElem_cons_succ, List.getElem_cons_zero, List.setIfInBounds_toArray, List.set_cons_zero, List.set_cons_succ])
                  refine wpAnyH_take (i := 2) (v := ?_) rfl (by kernel_rfl) (by kernel_rfl) (by kernel_rfl) (fun _ _ _ h => h) (Or.inl ⟨by rfl, ?_⟩) (by assumption) ?_
                  rotate_left
                  · intro wz hz
                    have f5 := (hz.cell (p := ⟨w.heap.size + 1, 0, none⟩) (by dsimp only; omega)).trans p5
                    have f8 := (hz.cell (p := ⟨Bx, 0, none⟩) (by dsimp only; omega)).trans p8
                    have fc := (hz.cell (p := ⟨gq, i, none⟩) (by dsimp only; omega)).trans pc
                    clear hz
                    go_simp
                    try with_reducible rfl
                  (try simp only [Act.put, List.getElem_toArray, List.getElem_cons_succ, List.getElem_cons_zero, List.setIfInBounds_toArray, List.set_cons_zero, List.set_cons_succ])
                  refine wpAnyH_take (i := 3) (v := ?_) rfl (by kernel_rfl) (by kernel_rfl) (by kernel_rfl) (fun _ _ _ h => h) (Or.inl ⟨by rfl, ?_⟩) (by assumption) ?_
                  rotate_left
                  · intro wz hz
                    have f5 := (hz.cell (p := ⟨w.heap.size + 1, 0, none⟩) (by dsimp only; omega)).trans p5
                    have f8 := (hz.cell (p := ⟨Bx, 0, none⟩) (by dsimp only; omega)).trans p8
                    have fc := (hz.cell (p := ⟨gq, i, none⟩) (by dsimp only; omega)).trans pc
                    clear hz
                    go_simp
                    try with_reducible rfl
                  (try simp only [Act.put, List.getElem_toArray, List.getElem_cons_succ, List.getElem_cons_zero, List.setIfInBounds_toArray, List.set_cons_zero, List.set_cons_succ])
                  refine wpAnyH_take (i := 4) (v := ?_) rfl (by kernel_rfl) (by kernel_rfl) (by kernel_rfl) (fun _ _ _ h => h) (Or.inl ⟨by rfl, ?_⟩) (by assumption) ?_
                  rotate_left
                  · intro wz hz
                    have f5 := (hz.cell (p := ⟨w.heap.size + 1, 0, none⟩) (by dsimp only; omega)).trans p5
                    have f8 := (hz.cell (p := ⟨Bx, 0, none⟩) (by dsimp only; omega)).trans p8
                    have fc := (hz.cell (p := ⟨gq, i, none⟩) (by dsimp only; omega)).trans pc
                    clear hz
                    go_simp
                    try with_reducible rfl
                  (try simp only [Act.put, List.getElem_toArray, List.getElem_cons_succ, List.getElem_cons_zero, List.setIfInBounds_toArray, List.set_cons_zero, List.set_cons_succ])
                  refine wpAnyH_take (i := 5) (v := ?_) rfl (by kernel_rfl) (by kernel_rfl) (by kernel_rfl) (fun _ _ _ h => h) (Or.inl ⟨by rfl, ?_⟩) (by assumption) ?_
                  rotate_left
                  · intro wz hz
                    have f5 := (hz.cell (p := ⟨w.heap.size + 1, 0, none⟩) (by dsimp only; omega)).trans p5
                    have f8 := (hz.cell (p := ⟨Bx, 0, none⟩) (by dsimp only; omega)).trans p8
                    have fc := (hz.cell (p := ⟨gq, i, none⟩) (by dsimp only; omega)).trans pc
                    clear hz
                    go_simp
                    try with_reducible rfl
                  (try simp only [Act.put, List.getElem_toArray, List.getElem_cons_succ, List.getElem_cons_zero, List.setIfInBounds_toArray, List.set_cons_zero, List.set_cons_succ])
                  refine wpAnyH_ready (rs := [6]) (by kernel_rfl) (by simp) (AllReadyH.cons rfl (fun K hK => ?_) AllReadyH.nil)
                  go_simp
                  refine (hhl.out _).mono ?_
                  rintro e wz ⟨rfl, rfl⟩
                  refine hK.out _ _ hHeld (fun _ => ?_)
                  clear hK K
                  (try simp only [Act.put, List.getElem_toArray, List.getElem_cons_succ, List.getElem_cons_zero, List.setIfInBounds_toArray, List.set_cons_zero, List.set_cons_succ])
                  refine wpAnyH_take (i := 7) (v := ?_) rfl (by kernel_rfl) (by kernel_rfl) (by kernel_rfl) (fun _ _ _ h => h) (Or.inl ⟨by rfl, ?_⟩) (by assumption) ?_
                  rotate_left
                  · intro wz hz
                    have f5 := (hz.cell (p := ⟨w.heap.size + 1, 0, none⟩) (by dsimp only; omega)).trans p5
                    have f8 := (hz.cell (p := ⟨Bx, 0, none⟩) (by dsimp only; omega)).trans p8
                    have fc := (hz.cell (p := ⟨gq, i, none⟩) (by dsimp only; omega)).trans pc
                    clear hz
                    go_simp
                    try with_reducible rfl
                  (try simp only [Act.put, List.getElem_toArray, List.getElem_cons_succ, List.getElem_cons_zero, List.setIfInBounds_toArray, List.set_cons_zero, List.set_cons_succ])
                  refine wpAnyH_take (i := 8) (v := ?_) rfl (by kernel_rfl) (by kernel_rfl) (by kernel_rfl) (fun _ _ _ h => h) (Or.inl ⟨by rfl, ?_⟩) (by assumption) ?_
                  rotate_left
                  · intro wz hz
                    have f5 := (hz.cell (p := ⟨w.heap.size + 1, 0, none⟩) (by dsimp only; omega)).trans p5
                    have f8 := (hz.cell (p := ⟨Bx, 0, none⟩) (by dsimp only; omega)).trans p8
                    have fc := (hz.cell (p := ⟨gq, i, none⟩) (by dsimp only; omega)).trans pc
                    clear hz
                    go_simp
                    try with_reducible rfl
                  (try simp only [Act.put, List.getElem_toArray, List.getElem_cons_succ, List.getElem_cons_zero, List.setIfInBounds_toArray, List.set_cons_zero, List.set_cons_succ])
                  refine wpAnyH_take (i := 9) (v := undef) rfl (by kernel_rfl) (by kernel_rfl) (by kernel_rfl) (fun _ _ _ h => h) (Or.inr ⟨by rfl, rfl⟩) (by assumption) ?_
                  (try simp only [Act.put, List.getElem_toArray, List.getElem_cons_succ, List.getElem_cons_zero, List.setIfInBounds_toArray, List.set_cons_zero, List.set_cons_succ])
                  refine wpAnyH_take (i := 10) (v := undef) rfl (by kernel_rfl) (by kernel_rfl) (by kernel_rfl) (fun _ _ _ h => h) (Or.inr ⟨by rfl, rfl⟩) (by assumption) ?_
                  (try simp only [Act.put, List.getElem_toArray, List.getElem_cons_succ, List.getElem_cons_zero, List.setIfInBounds_toArray, List.set_cons_zero, List.set_cons_succ])
                  refine wpAnyH_take (i := 11) (v := undef) rfl (by kernel_rfl) (by kernel_rfl) (by kernel_rfl) (fun _ _ _ h => h) (Or.inr ⟨by rfl, rfl⟩) (by assumption) ?_
                  (try simp only [Act.put, List.getElem_toArray, List.getElem_cons_succ, List.getElem_cons_zero, List.setIfInBounds_toArray, List.set_cons_zero, List.set_cons_succ])
                  refine wpAnyH_take (i := 12) (v := undef) rfl (by kernel_rfl) (by kernel_rfl) (by kernel_rfl) (fun _ _ _ h => h) (Or.inr ⟨by rfl, rfl⟩) (by assumption) ?_
                  (try simp only [Act.put, List.getElem_toArray, List.getElem_cons_succ, List.getElem_cons_zero, List.setIfInBounds_toArray, List.set_cons_zero, List.set_cons_succ])
                  refine wpAnyH_take (i := 13) (v := undef) rfl (by kernel_rfl) (by kernel_rfl) (by kernel_rfl) (fun _ _ _ h => h) (Or.inr ⟨by rfl, rfl⟩) (by assumption) ?_
                  (try simp only [Act.put, List.getElem_toArray, List.getElem_cons_succ, List.getElem_cons_zero, List.setIfInBounds_toArray, List.set_cons_zero, List.set_cons_succ])
                  refine wpAnyH_take (i := 14) (v := undef) rfl (by kernel_rfl) (by kernel_rfl) (by kernel_rfl) (fun _ _ _ h => h) (Or.inr ⟨by rfl, rfl⟩) (by assumption) ?_
                  (try simp only [Act.put, List.getElem_toArray, List.getElem_cons_succ, List.getElem_cons_zero, List.setIfInBounds_toArray, List.set_cons_zero, List.set_cons_succ])
                  refine wpAnyH_take (i := 15) (v := ?_) rfl (by kernel_rfl) (by kernel_rfl) (by kernel_rfl) (fun _ _ _ h => h) (Or.inl ⟨by rfl, ?_⟩) (by assumption) ?_
                  rotate_left
                  · intro wz hz
                    have f5 := (hz.cell (p := ⟨w.heap.size + 1, 0, none⟩) (by dsimp only; omega)).trans p5
                    have f8 := (hz.cell (p := ⟨Bx, 0, none⟩) (by dsimp only; omega)).trans p8
                    have fc := (hz.cell (p := ⟨gq, i, none⟩) (by dsimp only; omega)).trans pc
                    clear hz
                    go_simp
                    try with_reducible rfl
                  (try simp only [Act.put, List.getElem_toArray, List.getElem_cons_succ, List.getElem_cons_zero, List.setIfInBounds_toArray, List.set_cons_zero, List.set_cons_succ])
                  refine wpAnyH_done (by kernel_rfl) ?_ _
                  refine OnlyN.normal ?_
                  gi_wp2_with fail
                  gi_meet
                  exact ⟨⟨by rw [hgv.out], hBp.trans (hHeld.mono hBp.size)⟩, rfl, rfl, rfl, rfl, rfl, rfl⟩
              obtain ⟨⟨rfl, hb3⟩, rfl, rfl, rfl, rfl, rfl, rfl⟩ := hcut
              obtain ⟨w3, rfl⟩ : ∃ x : World, x = wc := ⟨_, rfl⟩
              clear p5 p8 p8i pc
              cases hgv : grA S (psN S M N) qL i l0
              · have hgn2 : Hid (∀ l', l' < l0 + 1 → grA S (psN S M N) qL i l' = false) := fun l' hl' => by
                  rcases Nat.lt_succ_iff_lt_or_eq.1 hl' with h | rfl
                  · exact hgl.out l' h
                  · exact hgv
                gi_wp2
                go_roundw
                case rel => exact ⟨l0 + 1, by omega, by push_cast; rfl, hgn2.out, hb3⟩
                case measure =>
                  show (lvA S i).toNat - ((l0 : Int) + 1).toNat < (lvA S i).toNat - (l0 : Int).toNat
                  omega
              · have hmx := mx_no2 (gr_hit (by have := hlq.out; omega) hll hgv)
                gi_wp2
                refine rowPost_on (KeepsFrom.of_grownBy (grown_belowE hb3) (by intro j hj; cases hj)) ⟨(hb3).mono h4h.out.size, (hb3).size, fun k cs t fz hk _ _ => (hb3).block k (Array.getElem?_eq_some_iff.1 hk).1⟩ ⟨⟨⟨⟨?_, boxed_below h2h.out hb3⟩, boxed_below h3h.out hb3⟩, h4h.out.trans ((hb3).mono h4h.out.size)⟩, Nat.le_trans h5 (hb3).size, h6⟩
                obtain ⟨u, T, k1, k2, k3, k4⟩ := hM1h.out
                refine ⟨u, T, boxed_below k1 hb3, k2.below hb3, ?_, fun p hp => List.mem_append_left _ (k4 p hp)⟩
                rw [eM_app, List.filter_append, k3]
                show _ = _ ++ List.filter _ [qL]
                rw [List.filter_cons_of_neg (by rw [hmx]; exact Bool.false_ne_true), List.filter_nil, List.append_nil]
            · have hlx : (l0 : Int) = lvA S i := by omega
              have hgi := Lib.hid (grI_no (P := psN S M N) (E := qL) (i := i) (fun l' hl' => hgl.out l' (by omega)))
              have hall2 : Hid (∀ j, j < i + 1 → grI S (psN S M N) qL j = false) := fun j hj => by
                rcases Nat.lt_succ_iff_lt_or_eq.1 hj with h | rfl
                · exact hall.out j h
                · exact hgi.out
              gi_wp2
              refine ⟨⟨i + 1, by omega, by push_cast; rfl, hall2.out, hbr2⟩, ?_⟩
              show S.length - ((i : Int) + 1).toNat < S.length - (i : Int).toNat
              omega
        · have hij : i = S.length := by omega
          subst hij
          have hgn := Lib.hid (gr_no (P := psN S M N) (E := qL) (fun j hj => hall.out j (by have := hlq.out; omega)))
          obtain ⟨u, T, k1, k2, k3, k4⟩ := hM1h.out
          have K1 := boxed_below k1 hbr
          have K2 := k2.below hbr
          obtain ⟨xv, cv, rfl, -, -⟩ := (OwR.of K2.1).form
          have hTl : T.length < 1000000 := by
            have h0 := congrArg List.length k3
            have h1 := List.length_filter_le (mxB S (psN S M N)) (eM pre)
            rw [eM_len] at h0
            omega
          have hc := K1.cell
          have hWb2 := wb_kept hWbh.out (grown_belowE hbr) (by intro r e; cases e)
          have e8 := hWb2.read 0
          have e8i := hWb2.inside
          have hqr := own_below hrowh.out hbr
          have hhiw : hi ≤ wo.heap.size := by
            obtain ⟨gq, cq, e⟩ := own_some hqr (by have := hlq.out; have := (schB_len hsh.out).1; omega)
            have h0 := hqr
            rw [e] at h0
            have h1 := own_lt h0
            omega
          have hszw : w.heap.size ≤ wo.heap.size := Nat.le_trans h4h.out.size hbr.size
          have k3h := Lib.hid k3
          have k4h := Lib.hid k4
          have K1h := Lib.hid K1
          have K2h := Lib.hid K2
          have hqrh := Lib.hid hqr
          have hbrh := Lib.hid hbr
          clear hall k1 k2 k3 k4 K1 K2 hWb2 hqr hbr
          gi_wp2_with (gi_at_builtin; refine wpListIn_append_own _ rfl _ _ 83 rfl hi 153 j0 (.agg #[.slice none 0 0]) 1 24 Try.underlying83 hif hy0 hy1 hy2 rfl (by decide) _ _ _ rfl (K2h.out.1.alloc _) ⟨wo.heap.size, 0, none⟩ 1 1 [.slice (some ⟨gq, 0, none⟩) qL.length qc] rfl rfl (cell_one_new _ _ _) (by simp [Value.oneCell']) (by unfold maxLen; omega) (by omega) (by simp; omega) ?_; intro v' w1 hown' hgrow _; obtain ⟨g', cap', rfl⟩ := ownsRow_succ hown'; obtain ⟨hv1, hv2, -, hk2, hb2⟩ := K1h.out.appended (n₀ := w.heap.size) (by decide) (own_more K2h.out.1 (by omega)) hszw (by omega) (own_more hown' (by omega)) hgrow; have hO := K2h.out.snocN (q := ⟨qa, qh, some ⟨gq, 0, none⟩, qc, qL⟩) hgrow hown' hqrh.out (fun p hp k hk => hndh.out p (k4h.out p hp) k hk); have hc1 := hv1.cell; have hf1 := hv1.frozen)
          have hkeep : ∀ k, k < X.heap.size → k < hi → k ≠ w.heap.size + 1 + 1 → (w1.setCell ⟨w.heap.size + 1 + 1, 0, none⟩ (.slice (some ⟨g', 0, none⟩) (T.length + 1) cap')).heap[k]? = X.heap[k]? := fun k hX hkh hne => by
            have hXw := hbrh.out.size
            have hw1 := hgrow.size
            rw [World.size_alloc] at hw1
            exact ((grownBy_setCell' w1 _ _).block k (by omega) (fun e => hne (by injection e))).trans ((hgrow.block k (by rw [World.size_alloc]; omega) (fun e => by have := (K2h.out.1.lt k e.symm).1; omega)).trans ((Below.heap_alloc wo _ k (by omega)).trans (hbrh.out.block k hX)))
          have hbX : Below w.heap.size X (w1.setCell ⟨w.heap.size + 1 + 1, 0, none⟩ (.slice (some ⟨g', 0, none⟩) (T.length + 1) cap')) := (hbrh.out.mono h4h.out.size).trans hb2
          refine rowPost_on ((KeepsFrom.of_grownBy (grown_belowE hbrh.out) (by intro j hj; cases hj)).trans (hk2.from _)) ⟨hbX, hbX.size, fun k cs t fz hk hkh hne => hkeep k (Array.getElem?_eq_some_iff.1 hk).1 hkh hne⟩ ⟨⟨⟨⟨⟨_, T ++ [⟨qa, qh, some ⟨gq, 0, none⟩, qc, qL⟩], hv2, hO.set (p := ⟨w.heap.size + 1 + 1, 0, none⟩) hv1 (by decide) (by decide) _, ?_, ?_⟩, (hkeep _ h2h.out.lt (by omega) (by omega)).trans h2h.out⟩, (hkeep _ h3h.out.lt (by omega) (by omega)).trans h3h.out⟩, h4h.out.trans hbX⟩, Nat.le_trans h5 hbX.size, h6⟩
          · rw [eM_app, eM_app, List.filter_append, k3h.out]
            show _ ++ [qL] = _ ++ List.filter _ [qL]
            rw [List.filter_cons_of_pos (mx_yes hvh.out hgn.out), List.filter_nil]
          · intro p hp
            rcases List.mem_append.1 hp with h | h
            · exact List.mem_append_left _ (k4h.out p h)
            · exact List.mem_append_right _ h
  case done =>
    rintro hi ys X hSy ⟨⟨⟨⟨hM1, h2⟩, h3⟩, h4⟩, h5, h6⟩ hK
    obtain ⟨u, T, k1, k2, k3, -⟩ := hM1
    have c1' := k1.cell
    have hSh2 := Lib.hid hSy
    have k3h := Lib.hid k3
    have hKh := Lib.hid hK
    clear hSy k3 hK
    go_wp2
    try rw [Exit.noGoto_ret]
    refine ⟨by simp, .inl ⟨_, _, rfl, run_takeDeferred hKh.out, ?_⟩⟩
    exact ⟨_, results_tmp rfl _ _ _, u, T, rfl, by rw [k3h.out, hSh2.out], (k2.keep (grownBy_putObj' X _ _) (fun k hk => .inl (by injection hk with hk; subst hk; exact ⟨_, hKh.out, rfl⟩))).more (by omega), h4.trans (belowK_b (w := w) (Nat.le_refl _) _ W0.heap.size _ _ (by omega) hKh.out rfl rfl)⟩
  case stop =>
    rintro hi pre X h _
    exact h.elim
end Go.Proofs.Ytnmpigedhpdenab

namespace Go.Proofs.Ytnmpigedhpdenab
open Go.RowKit Go.Shelf
set_option maxRecDepth 100000

theorem Rd.of_lit1 (w : World) : Rd (w.alloc (.cells #[.int .i64 1] 3)) (some ⟨w.heap.size, 0, none⟩) (iC [1]) := by
  refine Or.inr ⟨w.heap.size, 0, rfl, by simp, fun j v hj => ?_⟩
  rw [Nat.zero_add, World.cell?_alloc_at _ _ _ _ rfl, ← hj]
  cases j <;> rfl
set_option maxHeartbeats 4000000 in
theorem repeat1_any (y : Option Addr) (m : Nat) (w : World) (h1 : 1 ≤ m) (h6 : m ≤ 6) (hy : Rd w y (iC [1])) :
    Calls Try.prog 206 #[.slice y 1 1, .int .i64 m] w fun e w' => ∃ u, e = .returned u ∧ Ret w w' 3 1 u m (iC (List.replicate m 1)) := by
  obtain ⟨i0, hi, hz0, hz1, hz2⟩ := info_parts Try.infoInt
  have hbb : i0.bytes * m ≤ 281474976710656 := by rw [hz2]; omega
  have hmm : m ≤ maxLen := by unfold maxLen; omega
  have hmul : ∀ W, Calls Try.prog 213 #[.int .u64 1, .int .u64 (m : Int)] W fun e w' => e = .returned (.tuple #[.int .u64 0, .int .u64 (m : Int)]) ∧ W = w' := by
    intro W
    have h := Try.bits_Mul 1 m (by decide) (by omega) W
    rw [show 1 * m / 18446744073709551616 = 0 by omega, show 1 * m % 18446744073709551616 = m by omega] at h
    exact h.mono fun e w' k => ⟨k.1, k.2.symm⟩
  have hwu : IntKind.u64.wrap (m : Int) = m := by rw [show IntKind.u64.wrap (m : Int) = (m : Int) % 18446744073709551616 by simp [IntKind.wrap, IntKind.bits, IntKind.signed]]; omega
  have hwi : IntKind.i64.wrap (m : Int) = m := IntWalk.i64_in _ (by omega)
  have hyh := Lib.hid hy
  clear hy
  go_enter Try.func206, Try.ntmps206
  go_wp2_with (first
    | (go_at_call 213; refine (hmul _).mono ?_; rintro e w1 ⟨rfl, rfl⟩)
    | (at_make; go_loud (refine wpList_make_full _ rfl _ _ 23 rfl w.heap.size 3 i0 (.int .i64 0) 1 Try.underlying23 hi hz0 hz1 .i64 .i64 _ _ m rfl rfl rfl rfl hbb hmm (Nat.le_refl _) (fun w2 hown hgrow => ?_)); go_loud (have hb2 : Below w.heap.size w w2 := (Below.refl _ _).grown hgrow (Nat.le_refl _) (by intro k hk; cases hk); rw [made_on] at hown; have hg2 := Lib.hid (own_heapL hown); obtain ⟨yb, yo, y1', rfl, hyb, hy1, hyc⟩ := (hyh.out.below hb2).int (i := 0) (by decide); obtain rfl : y1' = 1 := (by simpa using hy1.symm); have hb2h := Lib.hid hb2; clear hown hgrow hbb hy1 hb2))
    | ((with_reducible show wpList _ _ _ (⟨some 33, _, _, _, _, _⟩ :: _) _ _); go_loud (refine wpList_copy_splice rfl (.tmp 31) (.tmp 32) 23 23 rfl 3 Try.underlying23 (by kernel_rfl) _ _ _ _ _ _ rfl rfl w.heap.size 0 _ 3 hg2.out (iC (List.replicate 1 1)) (by rw [iC_len, List.length_replicate]; exact (Nat.min_eq_left h1).symm) (fun _ => ⟨rfl, _, rfl, fun j v hj => by cases j with | zero => (simp [iC] at hj; subst hj; simpa [Addr.add] using hyc) | succ j => simp [iC] at hj⟩) (by rw [iC_len, iC_len, List.length_replicate, on_len (Nat.zero_le _)]; omega) (iC_one _) w.heap.size w hb2h.out (Nat.le_refl _) (fun w3 hg3 hb3 => ?_))))
  have hg3' : Hid (w3.heap[w.heap.size]? = some (.cells (iC (onL 1 m)).toArray 3 (0, 0))) := by
    have h0 := hg3.out
    rwa [on_splice (n := 0) (k := 1) (by omega)] at h0
  have hb3h := Lib.hid hb3
  clear hg3 hb3 hg2 hyc
  go_wp2
  go_loopw [8] (fun c wr => ∃ n : Nat, 1 ≤ n ∧ n ≤ m ∧ c = .int .i64 n ∧ Hid (wr.heap[w.heap.size]? = some (.cells (iC (onL n m)).toArray 3 (0, 0))) ∧ Below w.heap.size w wr) (fun c _ => m - (intOf c).toNat)
  case atStart => exact ⟨1, by omega, h1, (by first | rfl | simp [iC]), hg3'.out, hb3h.out⟩
  case round =>
    clear hg3' hb3h
    obtain ⟨n, hn1, hnm, rfl, hg, hb⟩ := hrel
    by_cases hlt : n < m
    · have hlt' : (n : Int) < (m : Int) := by omega
      have hle' : (n : Int) ≤ (m : Int) := by omega
      have hn0 : (0 : Int) ≤ (n : Int) := by omega
      have hmn : ¬ m = n := by omega
      obtain ⟨k, hk⟩ : ∃ k, k = Nat.min n (m - n) := ⟨_, rfl⟩
      have hk1 : k ≤ n := by rw [hk]; exact Nat.min_le_left _ _
      have hk2 : k ≤ m - n := by rw [hk]; exact Nat.min_le_right _ _
      have hk0 : 1 ≤ k := by rw [hk]; exact Nat.le_min.2 ⟨hn1, by omega⟩
      have hwk : IntKind.i64.wrap ((n : Int) + (k : Int)) = ((n + k : Nat) : Int) := by rw [IntWalk.i64_in _ (by omega)]; push_cast; rfl
      have hcell : ∀ (j : Nat) (v : Value), (iC (List.replicate k 1))[j]? = some v → wr.cell? ⟨w.heap.size, j, none⟩ = some v := by
        intro j v hj
        have hjk : j < k := by
          have := (List.getElem?_eq_some_iff.1 hj).1
          rwa [iC_len, List.length_replicate] at this
        have e1 : v = .int .i64 1 := by
          unfold iC at hj
          rw [List.map_replicate, List.getElem?_replicate, if_pos hjk] at hj
          exact (Option.some.inj hj).symm
        subst e1
        have e2 := iC_at (on_at (n := n) (m := m) (j := j) (by omega))
        show (match wr.heap[w.heap.size]? with | some (.cells cs _ _) => _ | _ => _) = _
        rw [hg.out]
        simpa using e2
      have hcell : ∀ (j : Nat) (v : Value), (iC (List.replicate k 1))[j]? = some v → wr.drew.cell? ⟨w.heap.size, j, none⟩ = some v := hcell
      replace hcell := Lib.hid hcell
      have hgd : Hid (wr.drew.heap[w.heap.size]? = some (.cells (iC (onL n m)).toArray 3 (0, 0))) := hg.out
      have hbd : Hid (Below w.heap.size w wr.drew) := Below.drew hb
      replace hk := Lib.hid hk
      have hlk : (iC (List.replicate k (1 : Int))).length = k := by rw [iC_len, List.length_replicate]
      go_wp2_with fail
      go_region_law (go_loud (refine step_copy_splice rfl (.tmp 41) (.tmp 44) 23 23 rfl 3 Try.underlying23 (by kernel_rfl) (some ⟨w.heap.size, n, none⟩) (some ⟨w.heap.size, 0, none⟩) (m - n) (m - n) n m (by go_simp) (by go_simp) w.heap.size n _ 3 hgd.out (iC (List.replicate k 1)) (by rw [iC_len, List.length_replicate, hk.out]) (fun _ => ⟨rfl, _, rfl, fun j v hj => by rw [show (Addr.add ⟨w.heap.size, 0, none⟩ j) = ⟨w.heap.size, j, none⟩ from by (simp [Addr.add]; try omega)]; exact hcell.out j v hj⟩) (by rw [iC_len, iC_len, List.length_replicate, on_len (by omega)]; omega) (iC_one _) w.heap.size w hbd.out (Nat.le_refl _) ?_); intro w4 hg4 hb4)
      all_goals
        have hg5 : Hid (w4.heap[w.heap.size]? = some (.cells (iC (onL (n + k) m)).toArray 3 (0, 0))) := by
          have h0 := hg4.out
          rwa [on_splice (n := n) (k := k) (by omega)] at h0
        clear hg4
        try go_simp
        go_wp2
        go_roundw
        case rel => exact ⟨n + k, by omega, by omega, (by first | rfl | (rw [hlk]; exact congrArg (Value.int .i64) hwk) | exact congrArg (Value.int .i64) hwk | go_num), hg5.out, hb4⟩
        case measure => simp [intOf]; omega
    · obtain rfl : n = m := by omega
      have hown := Lib.hid (own_of_heapL (base := w.heap.size) hg.out (Nat.le_refl _) (by rw [iC_len, on_len (Nat.le_refl _)]) hmm)
      go_wp2
      go_ret
      exact ⟨_, rfl, by rw [← on_full]; exact hown.out, hb⟩
set_option maxHeartbeats 1000000 in
theorem leastSets_any (x : Option Addr) (c : Nat) (S : List (ByteArray × Int)) (w : World) (hs : schB S = true) :
    Calls Try.prog 187 #[.slice x S.length c] w fun e w' => ∃ u, e = .returned u ∧ Ret w w' 3 1 u S.length (iC (lwL (bnS S (-1)))) := by
  have hsl := schB_len hs
  have hlw : List.replicate S.length 1 = lwL (bnS S (-1)) := by
    apply List.ext_getElem?
    intro j
    unfold lwL
    rw [List.getElem?_map, List.getElem?_replicate]
    by_cases hj : j < S.length
    · rw [if_pos hj, bn_at hj]
      show some 1 = some (bnA S (-1) j)
      rw [bn_one (by omega)]
    · rw [if_neg hj, List.getElem?_eq_none (by rw [bn_len]; omega)]
      rfl
  have hlwh := Lib.hid hlw
  clear hs hlw
  go_enter Try.func187, Try.ntmps187
  go_wp2_with fail
  refine (repeat1_any _ S.length _ hsl.1 hsl.2 (Rd.of_lit1 w)).mono ?_
  rintro e w3 ⟨u3, rfl, ho3, hb3⟩
  have hB3 : Below w.heap.size w w3 := (by repeat (first | exact Below.refl _ _ | assumption | refine Below.drew ?_ | refine below_drewN ?_ _ | refine Below.alloc' ?_ _ | (refine Below.setCell ?_ (by first | omega | (simp; done) | (simp; omega) | exact Below.size (by assumption) | exact Nat.le_trans (Below.size (by assumption)) (by simp)) _) | (refine Below.via' ?_ (by assumption)) | (refine Below.alloc ?_ (by first | omega | (simp; done) | (simp; omega) | exact Below.size (by assumption) | exact Nat.le_trans (Below.size (by assumption)) (by simp)) _) | (refine Below.via ?_ (by assumption) (by first | omega | (simp; done) | (simp; omega) | exact Below.size (by assumption) | exact Nat.le_trans (Below.size (by assumption)) (by simp)))))
  have ho3 := Lib.hid (own_more (base' := w.heap.size) ho3 (by simp))
  go_wp2
  go_ret
  exact ⟨_, rfl, by rw [← hlwh.out]; exact ho3.out, hB3⟩
end Go.Proofs.Ytnmpigedhpdenab

namespace Go.Proofs.Ytnmpigedhpdenab
open Go.RowKit Go.Shelf
set_option maxRecDepth 100000

theorem psi_grow {S : List (ByteArray × Int)} {M : List (List Int)} {v : Int} {x : Option Addr} {c lo g i : Nat} {w1 w2 : World} {u : Value} {y z5 : Option Addr} {d c5 : Nat} {T : List PR} {q : PR} {o : Obj}
    (hW : Wb w1 g 187 #[.slice x S.length c, .slice y T.length d, .int .i64 v, u]) (hrow : w1.ownsRow lo 23 1 (.slice y T.length d) T.length (eC T)) (hin : ∀ p ∈ T, w1.ownsRow lo 3 1 p.v p.L.length (iC p.L)) (hM : eM T = psL S M i) (hq : w1.ownsRow lo 3 1 q.v q.L.length (iC q.L)) (hqL : psL S M (i + 1) = psL S M i ++ [q.L])
    (hg : (w1.alloc o).grownBy w2 (Value.slice y T.length d).ownBlock) (hown : w2.ownsRow lo 23 1 (.slice z5 (T.length + 1) c5) (T.length + 1) (eC T ++ eC [q])) :
    Wb w2 g 187 #[.slice x S.length c, .slice y T.length d, .int .i64 v, u] ∧ SrI S M (i + 1) v x c lo (w2.setCell ⟨g, 1, none⟩ (.slice z5 (T.length + 1) c5)) g u := by
  have hb1 : Below w1.heap.size w1 (w1.alloc o) := (Below.refl _ _).alloc (Nat.le_refl _) _
  have k1 : KxT 23 23 (w1.alloc o) w2 := KxT.of_grown hg (own_typ (hrow.alloc o))
  have W2 : Wb w2 g 187 #[.slice x S.length c, .slice y T.length d, .int .i64 v, u] := (k1.2 g _ _ _ (hW.kept hb1) (by decide) (by decide)).trans (hW.kept hb1)
  have k2 : KxT 187 187 w2 (w2.setCell ⟨g, 1, none⟩ (.slice z5 (T.length + 1) c5)) := KxT.of_set (p := ⟨g, 1, none⟩) W2 _
  have hl : (T ++ [q]).length = T.length + 1 := by simp
  refine ⟨W2, z5, c5, T ++ [q], ?_, ?_, fun p hp => ?_, ?_⟩
  · have h0 := W2.put 1 (.slice z5 (T.length + 1) c5)
    rw [hl]
    exact h0
  · rw [hl]
    have h0 := k2.own hown (by decide) (by decide)
    unfold eC at h0 ⊢
    rw [List.map_append]
    exact h0
  · rcases List.mem_append.1 hp with h1 | h1
    · exact k2.own (((hin p h1).alloc o).kept hg (rows_apart (hin p h1) hrow (by decide))) (by decide) (by decide)
    · obtain rfl := List.mem_singleton.1 h1
      exact k2.own ((hq.alloc o).kept hg (rows_apart hq hrow (by decide))) (by decide) (by decide)
  · rw [eM_app, hM, hqL]
    rfl
set_option maxHeartbeats 4000000 in
theorem eMaximal_any (x y : Option Addr) (c1 c2 : Nat) (S : List (ByteArray × Int)) (Q : List PR) (v : Int) (w : World) (hsm : smB S (eM Q) = true) (hS : SIn w x c1 S) (hQ : EIn w y Q) :
    Calls Try.prog 144 #[.slice x S.length c1, .slice y Q.length c2, .int .i64 v] w fun e w' => ∃ u T, e = .returned u ∧ eM T = mxL S (eM Q) v ∧ OwL w' w.heap.size u T ∧ Below w.heap.size w w' := by
  obtain ⟨i0, hi, hz0, hz1, hz2⟩ := info_parts Try.infoRow
  have hSh := Lib.hid hS
  have hQh := Lib.hid hQ
  have hm := hS.1
  obtain ⟨g0, hc100⟩ := sm_get hsm
  obtain ⟨g1, g2, g3⟩ := el_get g0
  have hsh := Lib.hid g1
  have hedh := Lib.hid g3
  have hq40 : Q.length ≤ 40 := by rw [eM_len] at g2; exact g2
  obtain ⟨n1, n2⟩ := cn_all g1
  obtain ⟨N, hN⟩ : ∃ N : Nat, cnZ S = (N : Int) := ⟨(cnZ S).toNat, by omega⟩
  have hN2 : N ≤ 262144 := by omega
  have hNh := Lib.hid hN
  have hsm2 := mx_small (M := eM Q) v g1 hc100
  have hwh := Lib.hid (rn_whole S (eM Q) v)
  have hNt : (cnZ S).toNat = N := by omega
  rw [hNt] at hwh
  have hlen : Hid (0 + (rnL S (psN S (eM Q) N) v 0 []).length ≤ 1000000) := by unfold Hid; rw [hwh.out]; omega
  have hI0 : Hid (SrI S (eM Q) 0 v x c1 w.heap.size (w.alloc (.cells #[.slice x S.length c1, .slice none 0 0, .int .i64 v, .slice none 0 0] 187)) w.heap.size (.slice none 0 0)) := ⟨none, 0, [], Wb.new w _ _, World.ownsRow_nil _ _ _ _, (fun q hq => by cases hq), rfl⟩
  have hB0 : Below w.heap.size w (w.alloc (.cells #[.slice x S.length c1, .slice none 0 0, .int .i64 v, .slice none 0 0] 187)) := (by repeat (first | exact Below.refl _ _ | assumption | refine Below.drew ?_ | refine below_drewN ?_ _ | refine Below.alloc' ?_ _ | (refine Below.setCell ?_ (by first | omega | (simp; done) | (simp; omega) | exact Below.size (by assumption) | exact Nat.le_trans (Below.size (by assumption)) (by simp)) _) | (refine Below.via' ?_ (by assumption)) | (refine Below.alloc ?_ (by first | omega | (simp; done) | (simp; omega) | exact Below.size (by assumption) | exact Nat.le_trans (Below.size (by assumption)) (by simp)) _) | (refine Below.via ?_ (by assumption) (by first | omega | (simp; done) | (simp; omega) | exact Below.size (by assumption) | exact Nat.le_trans (Below.size (by assumption)) (by simp)))))
  have hB0h := Lib.hid hB0
  clear hS hQ hsm g0 g1 g2 g3 n1 n2 hN hNt hsm2 hc100 hB0
  go_enter Try.func144, Try.ntmps144
  go_wp2
  go_loopw [8] (fun c wr => ∃ i : Nat, i ≤ N ∧ c = .int .i64 i ∧ Hid (SrI S (eM Q) i v x c1 w.heap.size wr w.heap.size (.slice none 0 0)) ∧ Below w.heap.size w wr) (fun c _ => N - (intOf c).toNat)
  case atStart => exact ⟨0, by omega, rfl, hI0.out, hB0h.out⟩
  case round =>
    clear hI0 hB0h
    obtain ⟨i, hi', rfl, hI, hBr⟩ := hrel
    obtain ⟨wo, rfl⟩ : ∃ q : World, q = wr := ⟨_, rfl⟩
    have hgi := hI.out.inside
    have hNN := hNh.out
    go_wp2_with fail
    refine (sCount_any _ _ S _ hsh.out hm (hSh.out.rd.below hBr)).mono ?_
    rintro e w2 ⟨rfl, hb2⟩
    rw [hNN]
    have hB2 : Below w.heap.size w w2 := hBr.trans (hb2.mono hBr.size)
    have hI2 := Lib.hid (hI.out.below hb2)
    clear hNN hI hb2 hBr
    by_cases hlt : i < N
    · have hlt' : (i : Int) < (N : Int) := by omega
      go_wp2_with fail
      refine (sAt_any _ _ S i _ hsh.out (by omega) (by have := hNh.out; omega) hm (hSh.out.rd.below hB2)).mono ?_
      rintro e w3 ⟨u3, rfl, ho3, hb3⟩
      obtain ⟨x3, n3, rfl, -, -⟩ := (OwR.of ho3).form
      have hin := Lib.hid (atL_iin hsh.out (show (0 : Int) ≤ (i : Int) by omega) (Rd.of_own ho3))
      have hB3 : Below w.heap.size w w3 := hB2.trans (hb3.mono hB2.size)
      have row3 := Lib.hid (own_more ho3 hB2.size)
      have hI3 := Lib.hid (hI2.out.below hb3)
      clear ho3 hb3 hI2
      go_wp2_with fail
      refine (eFailed_any _ _ _ _ Q (atL S i) _ hq40 (fun E hE => fine_of hsh.out (hedh.out E hE) (at_fitE hsh.out (by omega))) (hQh.out.below hB3) hin.out).mono ?_
      rintro e w4 ⟨u4, rfl, ho4, hb4⟩
      obtain ⟨x4, n4, rfl, -, -⟩ := (OwR.of ho4).form
      have hB4 : Below w.heap.size w w4 := hB3.trans (hb4.mono hB3.size)
      have row4 := Lib.hid (own_below row3.out hb4)
      have hI4 := Lib.hid (hI3.out.below hb4)
      have hs4 := hB4.size
      clear ho4 hb4 hI3 row3
      cases hfa : faB (eM Q) (atL S i)
      · have hz : (((feL (eM Q) (atL S i)).length : Int) == 0) = true := by rw [beq_iff_eq]; have := fe_none.2 hfa; omega
        have hst := Lib.hid (psL_yes (M := eM Q) hfa)
        obtain ⟨y4, d4, T, hW, hrow, hins, hM⟩ := hI4.out
        have hTl : T.length ≤ 262144 := by have h0 := psL_len S (eM Q) i; rw [← hM, eM_len] at h0; omega
        have ka := (hW.read 1).trans rfl
        have kb := hW.inside
        have hWh := Lib.hid hW
        have hrowh := Lib.hid hrow
        have hinsh := Lib.hid hins
        have hMh := Lib.hid hM
        clear hW hrow hins hM
        go_wp2_with (at_builtin; go_loud (refine wpList_append_rd _ rfl (.tmp 32) (.tmp 34) 103 rfl w.heap.size 23 i0 (.slice none 0 0) 1 24 Try.underlying103 hi hz0 hz1 hz2 rfl (by decide) _ T.length (eC T) rfl (hrowh.out.alloc _) _ 1 1 rfl (Nat.le_refl _) (by intro h; cases h) (eC [(⟨0, 0, x3, n3, atL S (i : Int)⟩ : PR)]) rfl (Rd.oneEdM _ _ _ _ _ _ (by simp)) (eC_one _) (by unfold maxLen; omega) (by omega) (by simp; omega) ?_); intro v5 w5 hown5 hgrow5 hwhere5; (obtain ⟨z5, c5, rfl, -, -⟩ := (OwR.of hown5).form); (obtain ⟨hW5, hI5⟩ := psi_grow (q := ⟨0, 0, x3, n3, atL S (i : Int)⟩) hWh.out hrowh.out hinsh.out hMh.out row4.out hst.out hgrow5 hown5); (have kc := (hW5.read 1).trans rfl); (have kd := hW5.free 1); (have ke := hW5.inside); (have hB5 := Lib.hid ((hB4.alloc hs4 _).grown hgrow5 (by simp; omega) (fun k hk => (hrowh.out.lt k hk).1))); (replace hI5 := Lib.hid hI5); clear hW5)
        clear hgrow5 hwhere5 hown5
        go_wp2
        go_roundw
        case rel => exact ⟨i + 1, by omega, by go_num, hI5.out, (hB5.out.setCell (p := ⟨w.heap.size, 1, none⟩) (Nat.le_refl _) _)⟩
        case measure => simp [intOf]; omega
      · have hz : (((feL (eM Q) (atL S i)).length : Int) == 0) = false := by
          rw [beq_eq_false_iff_ne]
          intro h
          have := fe_none.1 (show (feL (eM Q) (atL S i)).length = 0 by omega)
          rw [hfa] at this
          cases this
        have hst := Lib.hid (psL_no (M := eM Q) hfa)
        go_wp2
        go_roundw
        case rel =>
          refine ⟨i + 1, by omega, by go_num, ?_, hB4⟩
          obtain ⟨y4, d4, T, hW, hrow, hins, hM⟩ := hI4.out
          exact ⟨y4, d4, T, hW, hrow, hins, by rw [hM, hst.out]⟩
        case measure => simp [intOf]; omega
    · have hij : i = N := by omega
      subst hij
      have hrun := Lib.hid (run_any w.heap.size x c1 w.heap.size S (eM Q) i v w hN2 hsh.out hSh.out (Nat.le_refl _) (Nat.le_refl _) S.length 0 (by omega) none 0 [] (.slice none 0 0) [] w2 rfl (fun r hr => by rw [List.drop_zero] at hr; exact en_ed hsh.out hr) hlen.out hI2.out (OwL.nil _ _) hB2.size (World.ownsRow_nil _ _ _ _) hB2)
      go_wp2_with fail
      refine hrun.out.mono ?_
      rintro e w5 ⟨⟨r, rfl⟩, u5, T5, hI5, hO5, hM5, hk5, hB5⟩
      obtain ⟨y5, d5, TT, hW5, -, -, -⟩ := hI5
      have ka := (hW5.read 3).trans rfl
      have kb := hW5.inside
      have hM5 := Lib.hid hM5
      have hO5 := Lib.hid hO5
      clear hW5 hk5 hrun
      go_wp2
      go_ret
      exact ⟨_, T5, rfl, by rw [hM5.out, hwh.out]; rfl, hO5.out, hB5⟩
/-- A small schema, edits, and the index of a variable. -/
def elvB (S : List (ByteArray × Int)) (M : List (List Int)) (v : Int) : Bool := smB S M && inB v 0 ((S.length : Int) - 1)
theorem elv_no1 {S : List (ByteArray × Int)} {M : List (List Int)} {v : Int} (h : smB S M = false) : elvB S M v = false := by unfold elvB; rw [h]; rfl
theorem elv_no2 {S : List (ByteArray × Int)} {M : List (List Int)} {v : Int} (h : inB v 0 ((S.length : Int) - 1) = false) : elvB S M v = false := by unfold elvB; rw [h, Bool.and_false]
theorem elv_yes {S : List (ByteArray × Int)} {M : List (List Int)} {v : Int} (h : smB S M = true) (k : inB v 0 ((S.length : Int) - 1) = true) : elvB S M v = true := by unfold elvB; rw [h, k]; rfl
theorem tot_eML (T : List PR) : tot T = ((eM T).map List.length).sum := by unfold tot eM; rw [List.map_map]; rfl
theorem sum_len {n : Nat} : ∀ (L : List (List Int)), (∀ e ∈ L, e.length = n) → (L.map List.length).sum = L.length * n
  | [], _ => by simp
  | e :: L, h => by
    rw [List.map_cons, List.sum_cons, sum_len L (fun f hf => h f (List.mem_cons_of_mem _ hf)), h e (List.mem_cons_self ..), List.length_cons, Nat.succ_mul]
    omega
theorem mx_tot {S : List (ByteArray × Int)} {M : List (List Int)} {v : Int} {b : Bool} (h : b = true → smB S M = true) : (eE b (mxL S M v)).length ≤ 1048576 ∧ ((eE b (mxL S M v)).map List.length).sum ≤ 1048576 := by
  cases b with
  | false => exact ⟨by simp [eE], by simp [eE]⟩
  | true =>
    obtain ⟨h1, h2⟩ := sm_get (h rfl)
    have hs := (el_get h1).1
    obtain ⟨h3, h4⟩ := mx_small (M := M) v hs h2
    rw [eE_yes _ rfl, sum_len _ (fun e he => ed_len (mx_ed hs he))]
    exact ⟨by omega, by omega⟩
theorem elv_sm {S : List (ByteArray × Int)} {M : List (List Int)} {v : Int} (h : elvB S M v = true) : smB S M = true := by unfold elvB at h; rw [Bool.and_eq_true] at h; exact h.1
end Go.Proofs.Ytnmpigedhpdenab

namespace Go.Proofs.Ytnmpigedhpdenab
open Go.RowKit
set_option maxRecDepth 100000

theorem cn_nat {S : List (ByteArray × Int)} (hs : schB S = true) : cnZ S = ((cnZ S).toNat : Int) := by
  have := (cn_all hs).1
  omega
theorem own_cap {w : World} {base t s n : Nat} {x : Option Addr} {c : Nat} {xs : List Value} (h : w.ownsRow base t s (.slice x n c) n xs) : n ≤ c := by
  obtain ⟨_, _, e, h, _⟩ := (OwR.of h).form
  injection e with _ _ e
  omega
set_option maxHeartbeats 1000000 in
theorem maximalEdits_any (x y : Option Addr) (c1 c2 : Nat) (S : List (ByteArray × Int)) (Q : List PR) (w : World) (hel : elB S (eM Q) = true) (hcn : cnZ S ≤ 100) (hS : SIn w x c1 S) (hQ : EIn w y Q) :
    Calls Try.prog 147 #[.slice x S.length c1, .slice y Q.length c2] w (MfPost (mxL S (eM Q) (-1)) w) := by
  have hs := (el_get hel).1
  have hN := cn_nat hs
  have hSh := Lib.hid hS
  have hQh := Lib.hid hQ
  have hsh := Lib.hid hs
  have helh := Lib.hid hel
  have hNh := Lib.hid hN
  have hch := Lib.hid hcn
  have hsl := schB_len hs
  clear hel hcn hS hQ hs hN
  go_enter Try.func147, Try.ntmps147
  go_wp2_with fail
  refine (leastSets_any _ _ S _ hsh.out).mono ?_
  rintro e w1 ⟨u1, rfl, ho1, hb1⟩
  obtain ⟨g1, k1, rfl⟩ := own_some ho1 (by omega)
  have hcap := own_cap ho1
  have ho1h := Lib.hid ho1
  clear ho1
  go_wp2_with fail
  refine (impliedBy_any _ _ _ _ S Q _ helh.out (hSh.out.below (by exact (by repeat (first | exact Below.refl _ _ | assumption | refine Below.drew ?_ | refine below_drewN ?_ _ | refine Below.alloc' ?_ _ | (refine Below.setCell ?_ (by first | omega | (simp; done) | (simp; omega) | exact Below.size (by assumption) | exact Nat.le_trans (Below.size (by assumption)) (by simp)) _) | (refine Below.via' ?_ (by assumption)) | (refine Below.alloc ?_ (by first | omega | (simp; done) | (simp; omega) | exact Below.size (by assumption) | exact Nat.le_trans (Below.size (by assumption)) (by simp)) _) | (refine Below.via ?_ (by assumption) (by first | omega | (simp; done) | (simp; omega) | exact Below.size (by assumption) | exact Nat.le_trans (Below.size (by assumption)) (by simp))))))) (hQh.out.below (by exact (by repeat (first | exact Below.refl _ _ | assumption | refine Below.drew ?_ | refine below_drewN ?_ _ | refine Below.alloc' ?_ _ | (refine Below.setCell ?_ (by first | omega | (simp; done) | (simp; omega) | exact Below.size (by assumption) | exact Nat.le_trans (Below.size (by assumption)) (by simp)) _) | (refine Below.via' ?_ (by assumption)) | (refine Below.alloc ?_ (by first | omega | (simp; done) | (simp; omega) | exact Below.size (by assumption) | exact Nat.le_trans (Below.size (by assumption)) (by simp)) _) | (refine Below.via ?_ (by assumption) (by first | omega | (simp; done) | (simp; omega) | exact Below.size (by assumption) | exact Nat.le_trans (Below.size (by assumption)) (by simp))))))) _ hNh.out).mono ?_
  rintro e w2 ⟨B, rfl, hI, hb2⟩
  have hIh := Lib.hid hI
  have ho2 := Lib.hid (own_below ho1h.out hb2)
  have hB2 : Below w.heap.size w w2 := (by repeat (first | exact Below.refl _ _ | assumption | refine Below.drew ?_ | refine below_drewN ?_ _ | refine Below.alloc' ?_ _ | (refine Below.setCell ?_ (by first | omega | (simp; done) | (simp; omega) | exact Below.size (by assumption) | exact Nat.le_trans (Below.size (by assumption)) (by simp)) _) | (refine Below.via' ?_ (by assumption)) | (refine Below.alloc ?_ (by first | omega | (simp; done) | (simp; omega) | exact Below.size (by assumption) | exact Nat.le_trans (Below.size (by assumption)) (by simp)) _) | (refine Below.via ?_ (by assumption) (by first | omega | (simp; done) | (simp; omega) | exact Below.size (by assumption) | exact Nat.le_trans (Below.size (by assumption)) (by simp)))))
  clear hI
  go_wp2_with fail
  refine (maximalFrom_any (-1) _ _ _ _ B S (eM Q) _ _ hsh.out hch.out (hSh.out.below (by exact (by repeat (first | exact Below.refl _ _ | assumption | refine Below.drew ?_ | refine below_drewN ?_ _ | refine Below.alloc' ?_ _ | (refine Below.setCell ?_ (by first | omega | (simp; done) | (simp; omega) | exact Below.size (by assumption) | exact Nat.le_trans (Below.size (by assumption)) (by simp)) _) | (refine Below.via' ?_ (by assumption)) | (refine Below.alloc ?_ (by first | omega | (simp; done) | (simp; omega) | exact Below.size (by assumption) | exact Nat.le_trans (Below.size (by assumption)) (by simp)) _) | (refine Below.via ?_ (by assumption) (by first | omega | (simp; done) | (simp; omega) | exact Below.size (by assumption) | exact Nat.le_trans (Below.size (by assumption)) (by simp))))))) (Rd.of_own ho2.out) hcap hIh.out).mono ?_
  rintro e w3 ⟨u, T, rfl, hM, ho3, hb3⟩
  have hM := Lib.hid hM
  have ho3 := Lib.hid (ho3.more hB2.size)
  go_wp2
  go_ret
  exact ⟨_, T, rfl, hM.out, ho3.out, (by repeat (first | exact Below.refl _ _ | assumption | refine Below.drew ?_ | refine below_drewN ?_ _ | refine Below.alloc' ?_ _ | (refine Below.setCell ?_ (by first | omega | (simp; done) | (simp; omega) | exact Below.size (by assumption) | exact Nat.le_trans (Below.size (by assumption)) (by simp)) _) | (refine Below.via' ?_ (by assumption)) | (refine Below.alloc ?_ (by first | omega | (simp; done) | (simp; omega) | exact Below.size (by assumption) | exact Nat.le_trans (Below.size (by assumption)) (by simp)) _) | (refine Below.via ?_ (by assumption) (by first | omega | (simp; done) | (simp; omega) | exact Below.size (by assumption) | exact Nat.le_trans (Below.size (by assumption)) (by simp)))))⟩
theorem lw_set {S : List (ByteArray × Int)} {k : Nat} (h : k < S.length) : (lwL (bnS S (-1))).set k (flZ (lvA S k)) = lwL (bnS S (k : Int)) := by
  apply List.ext_getElem?
  intro j
  unfold lwL
  rw [List.getElem?_set, List.getElem?_map, List.length_map, bn_len]
  by_cases hj : k = j
  · subst hj
    rw [if_pos rfl, if_pos h, List.getElem?_map, bn_at h]
    show _ = some (bnA S (k : Int) k)
    rw [bn_full rfl]
  · rw [if_neg hj, List.getElem?_map]
    by_cases hl : j < S.length
    · rw [bn_at hl, bn_at hl]
      show some (bnA S (-1) j) = some (bnA S (k : Int) j)
      rw [bn_one (by omega), bn_one (by omega)]
    · rw [List.getElem?_eq_none (by rw [bn_len]; omega), List.getElem?_eq_none (by rw [bn_len]; omega)]
end Go.Proofs.Ytnmpigedhpdenab

namespace Go.Proofs.Ytnmpigedhpdenab
open Go.RowKit
set_option maxRecDepth 100000

set_option maxHeartbeats 1000000 in
theorem l1Has_any (y : Option Addr) (c : Nat) (L : List Int) (n : Int) (w : World) (hL : IIn w y L) :
    Calls Try.prog 146 #[.slice y L.length c, .int .i64 n] w fun e w' => e = .returned (.bool (L.contains n)) ∧ w = w' := by
  have hLh := Lib.hid hL
  have hLl := hL.1
  clear hL
  go_enter Try.func146, Try.ntmps146
  go_wp2
  go_loopw [9] (fun c wr => ∃ i : Nat, i ≤ L.length ∧ c = .int .i64 i ∧ Hid (∀ j, j < i → ¬ L[j]? = some n) ∧ w = wr) (fun c _ => L.length - (intOf c).toNat)
  case atStart => exact ⟨0, by omega, rfl, (fun j hj => absurd hj (by omega)), rfl⟩
  case round =>
    obtain ⟨i, hi, rfl, hall, rfl⟩ := hrel
    by_cases hlt : i < L.length
    · obtain ⟨bl, off, v, rfl, hbl, hLi, hc0⟩ := hLh.out.2.2.int hlt
      have hLih := Lib.hid hLi
      have hlt' : (i : Int) < (L.length : Int) := by omega
      have hi0 : (0 : Int) ≤ (i : Int) := by omega
      clear hLi
      by_cases he : v = n
      · have hv : Hid (L.contains n = true) := by unfold Hid; rw [List.contains_iff_mem, ← he]; exact List.mem_of_getElem? hLih.out
        have heb : (v == n) = true := by rw [beq_iff_eq]; exact he
        replace he := Lib.hid he
        go_wp2
        go_ret
        exact ⟨ret_bool hv.out.symm, rfl⟩
      · have heb : (v == n) = false := by rw [beq_eq_false_iff_ne]; exact he
        have hne : Hid (¬ L[i]? = some n) := by unfold Hid; rw [hLih.out]; intro h; exact he (Option.some.inj h)
        replace he := Lib.hid he
        go_wp2
        go_roundw
        case rel =>
          refine ⟨i + 1, by omega, by go_num, fun j hj => ?_, by first | rfl | trivial⟩
          rcases Nat.lt_or_ge j i with hj2 | hj2
          · exact hall.out j hj2
          · obtain rfl : j = i := by omega
            exact hne.out
        case measure => simp [intOf]; omega
    · have hij : i = L.length := by omega
      subst hij
      have hv : Hid (L.contains n = false) := by
        unfold Hid
        cases h : L.contains n with
        | false => rfl
        | true =>
          rw [List.contains_iff_mem] at h
          obtain ⟨j, hj, e⟩ := List.getElem_of_mem h
          exact absurd (by rw [List.getElem?_eq_getElem hj, e]) (hall.out j hj)
      clear hall
      go_wp2
      go_ret
      exact ⟨ret_bool hv.out.symm, rfl⟩
/-- What slices.Index tells of a list and a number. -/
def ixP (L : List Int) (n k : Int) : Prop := -1 ≤ k ∧ k < 1048577 ∧ decide (0 ≤ k) = L.contains n
set_option maxHeartbeats 1000000 in
theorem index_any (y : Option Addr) (c : Nat) (L : List Int) (n : Int) (w : World) (hL : IIn w y L) :
    Calls Try.prog 190 #[.slice y L.length c, .int .i64 n] w fun e w' => ∃ k, e = .returned (.int .i64 k) ∧ ixP L n k ∧ w = w' := by
  have hLh := Lib.hid hL
  have hLl := hL.1
  clear hL
  go_enter Try.func190, Try.ntmps190
  go_wp2
  go_loopw [8] (fun c wr => ∃ i : Nat, i ≤ L.length ∧ c = .int .i64 i ∧ Hid (∀ j, j < i → ¬ L[j]? = some n) ∧ w = wr) (fun c _ => L.length - (intOf c).toNat)
  case atStart => exact ⟨0, by omega, rfl, (fun j hj => absurd hj (by omega)), rfl⟩
  case round =>
    obtain ⟨i, hi, rfl, hall, rfl⟩ := hrel
    by_cases hlt : i < L.length
    · obtain ⟨bl, off, v, rfl, hbl, hLi, hc0⟩ := hLh.out.2.2.int hlt
      have hLih := Lib.hid hLi
      have hlt' : (i : Int) < (L.length : Int) := by omega
      have hi0 : (0 : Int) ≤ (i : Int) := by omega
      clear hLi
      by_cases he : v = n
      · have hv : Hid (L.contains n = true) := by unfold Hid; rw [List.contains_iff_mem, ← he]; exact List.mem_of_getElem? hLih.out
        have heb : (n == v) = true := by rw [beq_iff_eq]; exact he.symm
        replace he := Lib.hid he
        go_wp2
        go_ret
        exact ⟨_, rfl, ⟨by omega, by omega, by rw [hv.out]; exact decide_eq_true (by omega)⟩, rfl⟩
      · have heb : (n == v) = false := by rw [beq_eq_false_iff_ne]; exact fun h => he h.symm
        have hne : Hid (¬ L[i]? = some n) := by unfold Hid; rw [hLih.out]; intro h; exact he (Option.some.inj h)
        replace he := Lib.hid he
        go_wp2
        go_roundw
        case rel =>
          refine ⟨i + 1, by omega, by go_num, fun j hj => ?_, by first | rfl | trivial⟩
          rcases Nat.lt_or_ge j i with hj2 | hj2
          · exact hall.out j hj2
          · obtain rfl : j = i := by omega
            exact hne.out
        case measure => simp [intOf]; omega
    · have hij : i = L.length := by omega
      subst hij
      have hv : Hid (L.contains n = false) := by
        unfold Hid
        cases h : L.contains n with
        | false => rfl
        | true =>
          rw [List.contains_iff_mem] at h
          obtain ⟨j, hj, e⟩ := List.getElem_of_mem h
          exact absurd (by rw [List.getElem?_eq_getElem hj, e]) (hall.out j hj)
      clear hall
      go_wp2
      go_ret
      exact ⟨_, rfl, ⟨by omega, by omega, by rw [hv.out]; exact decide_eq_false (by omega)⟩, rfl⟩
theorem contains_any (y : Option Addr) (c : Nat) (L : List Int) (n : Int) (w : World) (hL : IIn w y L) :
    Calls Try.prog 149 #[.slice y L.length c, .int .i64 n] w fun e w' => e = .returned (.bool (L.contains n)) ∧ w = w' := by
  go_enter Try.func149, Try.ntmps149
  go_wp2_with fail
  refine (index_any _ _ L n _ hL).mono ?_
  rintro e w1 ⟨k, rfl, ⟨h0, h1, h2⟩, rfl⟩
  have hv := Lib.hid h2
  clear h2
  go_wp2
  go_ret
  exact ⟨ret_bool hv.out, rfl⟩
end Go.Proofs.Ytnmpigedhpdenab
