import Derived.Test.YtgkaalonmkcclabPRcC
import Derived.Test.YtgkaalonmkcclabEdV
import Derived.Deep.DeepCutAuto
namespace Go.Proofs.Ytgkaalonmkcclab
open Go.RowKit Go.Shelf
set_option maxRecDepth 100000

theorem Rd.of_lit1 (w : World) : Rd (w.alloc (.cells #[.int .i64 1] 3)) (some ⟨w.heap.size, 0, none⟩) (iC [1]) := by
  refine Or.inr ⟨w.heap.size, 0, rfl, by simp, fun j v hj => ?_⟩
  rw [Nat.zero_add, World.cell?_alloc_at _ _ _ _ rfl, ← hj]
  cases j <;> rfl
set_option maxHeartbeats 4000000 in
theorem repeat1_any (y : Option Addr) (m : Nat) (w : World) (h1 : 1 ≤ m) (h6 : m ≤ 6) (hy : Rd w y (iC [1])) :
    Calls Try.prog 161 #[.slice y 1 1, .int .i64 m] w fun e w' => ∃ u, e = .returned u ∧ Ret w w' 3 1 u m (iC (List.replicate m 1)) := by
  obtain ⟨i0, hi, hz0, hz1, hz2⟩ := info_parts Try.infoInt
  have hbb : i0.bytes * m ≤ 281474976710656 := by rw [hz2]; omega
  have hmm : m ≤ maxLen := by unfold maxLen; omega
  have hmul : ∀ W, Calls Try.prog 174 #[.int .u64 1, .int .u64 (m : Int)] W fun e w' => e = .returned (.tuple #[.int .u64 0, .int .u64 (m : Int)]) ∧ W = w' := by
    intro W
    have h := Try.bits_Mul 1 m (by decide) (by omega) W
    rw [show 1 * m / 18446744073709551616 = 0 by omega, show 1 * m % 18446744073709551616 = m by omega] at h
    exact h.mono fun e w' k => ⟨k.1, k.2.symm⟩
  have hwu : IntKind.u64.wrap (m : Int) = m := by rw [show IntKind.u64.wrap (m : Int) = (m : Int) % 18446744073709551616 by simp [IntKind.wrap, IntKind.bits, IntKind.signed]]; omega
  have hwi : IntKind.i64.wrap (m : Int) = m := IntWalk.i64_in _ (by omega)
  have hyh := Lib.hid hy
  clear hy
  go_enter Try.func161, Try.ntmps161
  go_wp2_with (first
    | (go_at_call 174; refine (hmul _).mono ?_; rintro e w1 ⟨rfl, rfl⟩)
    | (at_make; go_loud (refine wpList_make_full _ rfl _ _ 24 rfl w.heap.size 3 i0 (.int .i64 0) 1 Try.underlying24 hi hz0 hz1 .i64 .i64 _ _ m rfl rfl rfl rfl hbb hmm (Nat.le_refl _) (fun w2 hown hgrow => ?_)); go_loud (have hb2 : Below w.heap.size w w2 := (Below.refl _ _).grown hgrow (Nat.le_refl _) (by intro k hk; cases hk); rw [made_on] at hown; have hg2 := Lib.hid (own_heapL hown); obtain ⟨yb, yo, y1', rfl, hyb, hy1, hyc⟩ := (hyh.out.below hb2).int (i := 0) (by decide); obtain rfl : y1' = 1 := (by simpa using hy1.symm); have hb2h := Lib.hid hb2; clear hown hgrow hbb hy1 hb2))
    | ((with_reducible show wpList _ _ _ (⟨some 33, _, _, _, _, _⟩ :: _) _ _); go_loud (refine wpList_copy_splice rfl (.tmp 31) (.tmp 32) 24 24 rfl 3 Try.underlying24 (by kernel_rfl) _ _ _ _ _ _ rfl rfl w.heap.size 0 _ 3 hg2.out (iC (List.replicate 1 1)) (by rw [iC_len, List.length_replicate]; exact (Nat.min_eq_left h1).symm) (fun _ => ⟨rfl, _, rfl, fun j v hj => by cases j with | zero => (simp [iC] at hj; subst hj; simpa [Addr.add] using hyc) | succ j => simp [iC] at hj⟩) (by rw [iC_len, iC_len, List.length_replicate, on_len (Nat.zero_le _)]; omega) (iC_one _) w.heap.size w hb2h.out (Nat.le_refl _) (fun w3 hg3 hb3 => ?_))))
  have hg3' : Hid (w3.heap[w.heap.size]? = some (.cells (iC (onL 1 m)).toArray 3 (0, 0))) := by
    have h0 := hg3.out
    rwa [on_splice (n := 0) (k := 1) (by omega)] at h0
  have hb3h := Lib.hid hb3
  clear hg3 hb3 hg2 hyc
  go_wp2
  go_loopw [8] (fun c wr => ∃ n : Nat, 1 ≤ n ∧ n ≤ m ∧ c = .int .i64 n ∧ Hid (wr.heap[w.heap.size]? = some (.cells (iC (onL n m)).toArray 3 (0, 0))) ∧ Below w.heap.size w wr) (fun c _ => m - (intOf c).toNat)
  case atStart => exact ⟨1, by omega, h1, (by first | rfl | simp [iC]), hg3'.out, hb3h.out⟩
  case round =>
    clear hg3' hb3h
    obtain ⟨n, hn1, hnm, rfl, hg, hb⟩ := hrel
    by_cases hlt : n < m
    · have hlt' : (n : Int) < (m : Int) := by omega
      have hle' : (n : Int) ≤ (m : Int) := by omega
      have hn0 : (0 : Int) ≤ (n : Int) := by omega
      have hmn : ¬ m = n := by omega
      obtain ⟨k, hk⟩ : ∃ k, k = Nat.min n (m - n) := ⟨_, rfl⟩
      have hk1 : k ≤ n := by rw [hk]; exact Nat.min_le_left _ _
      have hk2 : k ≤ m - n := by rw [hk]; exact Nat.min_le_right _ _
      have hk0 : 1 ≤ k := by rw [hk]; exact Nat.le_min.2 ⟨hn1, by omega⟩
      have hwk : IntKind.i64.wrap ((n : Int) + (k : Int)) = ((n + k : Nat) : Int) := by rw [IntWalk.i64_in _ (by omega)]; push_cast; rfl
      have hcell : ∀ (j : Nat) (v : Value), (iC (List.replicate k 1))[j]? = some v → wr.cell? ⟨w.heap.size, j, none⟩ = some v := by
        intro j v hj
        have hjk : j < k := by
          have := (List.getElem?_eq_some_iff.1 hj).1
          rwa [iC_len, List.length_replicate] at this
        have e1 : v = .int .i64 1 := by
          unfold iC at hj
          rw [List.map_replicate, List.getElem?_replicate, if_pos hjk] at hj
          exact (Option.some.inj hj).symm
        subst e1
        have e2 := iC_at (on_at (n := n) (m := m) (j := j) (by omega))
        show (match wr.heap[w.heap.size]? with | some (.cells cs _ _) => _ | _ => _) = _
        rw [hg.out]
        simpa using e2
      have hcell : ∀ (j : Nat) (v : Value), (iC (List.replicate k 1))[j]? = some v → wr.drew.cell? ⟨w.heap.size, j, none⟩ = some v := hcell
      replace hcell := Lib.hid hcell
      have hgd : Hid (wr.drew.heap[w.heap.size]? = some (.cells (iC (onL n m)).toArray 3 (0, 0))) := hg.out
      have hbd : Hid (Below w.heap.size w wr.drew) := Below.drew hb
      replace hk := Lib.hid hk
      have hlk : (iC (List.replicate k (1 : Int))).length = k := by rw [iC_len, List.length_replicate]
      go_wp2_with fail
      go_region_law (go_loud (refine step_copy_splice rfl (.tmp 41) (.tmp 44) 24 24 rfl 3 Try.underlying24 (by kernel_rfl) (some ⟨w.heap.size, n, none⟩) (some ⟨w.heap.size, 0, none⟩) (m - n) (m - n) n m (by go_simp) (by go_simp) w.heap.size n _ 3 hgd.out (iC (List.replicate k 1)) (by rw [iC_len, List.length_replicate, hk.out]) (fun _ => ⟨rfl, _, rfl, fun j v hj => by rw [show (Addr.add ⟨w.heap.size, 0, none⟩ j) = ⟨w.heap.size, j, none⟩ from by (simp [Addr.add]; try omega)]; exact hcell.out j v hj⟩) (by rw [iC_len, iC_len, List.length_replicate, on_len (by omega)]; omega) (iC_one _) w.heap.size w hbd.out (Nat.le_refl _) ?_); intro w4 hg4 hb4)
      all_goals
        have hg5 : Hid (w4.heap[w.heap.size]? = some (.cells (iC (onL (n + k) m)).toArray 3 (0, 0))) := by
          have h0 := hg4.out
          rwa [on_splice (n := n) (k := k) (by omega)] at h0
        clear hg4
        try go_simp
        go_wp2
        go_roundw
        case rel => exact ⟨n + k, by omega, by omega, (by first | rfl | (rw [hlk]; exact congrArg (Value.int .i64) hwk) | exact congrArg (Value.int .i64) hwk | go_num), hg5.out, hb4⟩
        case measure => simp [intOf]; omega
    · obtain rfl : n = m := by omega
      have hown := Lib.hid (own_of_heapL (base := w.heap.size) hg.out (Nat.le_refl _) (by rw [iC_len, on_len (Nat.le_refl _)]) hmm)
      go_wp2
      go_ret
      exact ⟨_, rfl, by rw [← on_full]; exact hown.out, hb⟩
set_option maxHeartbeats 1000000 in
theorem leastSets_any (x : Option Addr) (c : Nat) (S : List (ByteArray × Int)) (w : World) (hs : schB S = true) :
    Calls Try.prog 121 #[.slice x S.length c] w fun e w' => ∃ u, e = .returned u ∧ Ret w w' 3 1 u S.length (iC (lwL (bnS S (-1)))) := by
  have hsl := schB_len hs
  have hlw : List.replicate S.length 1 = lwL (bnS S (-1)) := by
    apply List.ext_getElem?
    intro j
    unfold lwL
    rw [List.getElem?_map, List.getElem?_replicate]
    by_cases hj : j < S.length
    · rw [if_pos hj, bn_at hj]
      show some 1 = some (bnA S (-1) j)
      rw [bn_one (by omega)]
    · rw [if_neg hj, List.getElem?_eq_none (by rw [bn_len]; omega)]
      rfl
  have hlwh := Lib.hid hlw
  clear hs hlw
  go_enter Try.func121, Try.ntmps121
  go_wp2_with fail
  refine (repeat1_any _ S.length _ hsl.1 hsl.2 (Rd.of_lit1 w)).mono ?_
  rintro e w3 ⟨u3, rfl, ho3, hb3⟩
  have hB3 : Below w.heap.size w w3 := (by repeat (first | exact Below.refl _ _ | assumption | refine Below.drew ?_ | refine below_drewN ?_ _ | refine Below.alloc' ?_ _ | (refine Below.setCell ?_ (by first | omega | (simp; done) | (simp; omega) | exact Below.size (by assumption) | exact Nat.le_trans (Below.size (by assumption)) (by simp)) _) | (refine Below.via' ?_ (by assumption)) | (refine Below.alloc ?_ (by first | omega | (simp; done) | (simp; omega) | exact Below.size (by assumption) | exact Nat.le_trans (Below.size (by assumption)) (by simp)) _) | (refine Below.via ?_ (by assumption) (by first | omega | (simp; done) | (simp; omega) | exact Below.size (by assumption) | exact Nat.le_trans (Below.size (by assumption)) (by simp)))))
  have ho3 := Lib.hid (own_more (base' := w.heap.size) ho3 (by simp))
  go_wp2
  go_ret
  exact ⟨_, rfl, by rw [← hlwh.out]; exact ho3.out, hB3⟩
end Go.Proofs.Ytgkaalonmkcclab

namespace Go.Proofs.Ytgkaalonmkcclab
open Go.RowKit Go.Shelf
set_option maxRecDepth 100000

theorem psi_grow {S : List (ByteArray × Int)} {M : List (List Int)} {v : Int} {x : Option Addr} {c lo g i : Nat} {w1 w2 : World} {u : Value} {y z5 : Option Addr} {d c5 : Nat} {T : List PR} {q : PR} {o : Obj}
    (hW : Wb w1 g 146 #[.slice x S.length c, .slice y T.length d, .int .i64 v, u]) (hrow : w1.ownsRow lo 24 1 (.slice y T.length d) T.length (eC T)) (hin : ∀ p ∈ T, w1.ownsRow lo 3 1 p.v p.L.length (iC p.L)) (hM : eM T = psL S M i) (hq : w1.ownsRow lo 3 1 q.v q.L.length (iC q.L)) (hqL : psL S M (i + 1) = psL S M i ++ [q.L])
    (hg : (w1.alloc o).grownBy w2 (Value.slice y T.length d).ownBlock) (hown : w2.ownsRow lo 24 1 (.slice z5 (T.length + 1) c5) (T.length + 1) (eC T ++ eC [q])) :
    Wb w2 g 146 #[.slice x S.length c, .slice y T.length d, .int .i64 v, u] ∧ SrI S M (i + 1) v x c lo (w2.setCell ⟨g, 1, none⟩ (.slice z5 (T.length + 1) c5)) g u := by
  have hb1 : Below w1.heap.size w1 (w1.alloc o) := (Below.refl _ _).alloc (Nat.le_refl _) _
  have k1 : KxT 24 24 (w1.alloc o) w2 := KxT.of_grown hg (own_typ (hrow.alloc o))
  have W2 : Wb w2 g 146 #[.slice x S.length c, .slice y T.length d, .int .i64 v, u] := (k1.2 g _ _ _ (hW.kept hb1) (by decide) (by decide)).trans (hW.kept hb1)
  have k2 : KxT 146 146 w2 (w2.setCell ⟨g, 1, none⟩ (.slice z5 (T.length + 1) c5)) := KxT.of_set (p := ⟨g, 1, none⟩) W2 _
  have hl : (T ++ [q]).length = T.length + 1 := by simp
  refine ⟨W2, z5, c5, T ++ [q], ?_, ?_, fun p hp => ?_, ?_⟩
  · have h0 := W2.put 1 (.slice z5 (T.length + 1) c5)
    rw [hl]
    exact h0
  · rw [hl]
    have h0 := k2.own hown (by decide) (by decide)
    unfold eC at h0 ⊢
    rw [List.map_append]
    exact h0
  · rcases List.mem_append.1 hp with h1 | h1
    · exact k2.own (((hin p h1).alloc o).kept hg (rows_apart (hin p h1) hrow (by decide))) (by decide) (by decide)
    · obtain rfl := List.mem_singleton.1 h1
      exact k2.own ((hq.alloc o).kept hg (rows_apart hq hrow (by decide))) (by decide) (by decide)
  · rw [eM_app, hM, hqL]
    rfl
set_option maxHeartbeats 4000000 in
theorem eMaximal_any (x y : Option Addr) (c1 c2 : Nat) (S : List (ByteArray × Int)) (Q : List PR) (v : Int) (w : World) (hsm : smB S (eM Q) = true) (hS : SIn w x c1 S) (hQ : EIn w y Q) :
    Calls Try.prog 49 #[.slice x S.length c1, .slice y Q.length c2, .int .i64 v] w fun e w' => ∃ u T, e = .returned u ∧ eM T = mxL S (eM Q) v ∧ OwL w' w.heap.size u T ∧ Below w.heap.size w w' := by
  obtain ⟨i0, hi, hz0, hz1, hz2⟩ := info_parts Try.infoRow
  have hSh := Lib.hid hS
  have hQh := Lib.hid hQ
  have hm := hS.1
  obtain ⟨g0, hc100⟩ := sm_get hsm
  obtain ⟨g1, g2, g3⟩ := el_get g0
  have hsh := Lib.hid g1
  have hedh := Lib.hid g3
  have hq40 : Q.length ≤ 40 := by rw [eM_len] at g2; exact g2
  obtain ⟨n1, n2⟩ := cn_all g1
  obtain ⟨N, hN⟩ : ∃ N : Nat, cnZ S = (N : Int) := ⟨(cnZ S).toNat, by omega⟩
  have hN2 : N ≤ 262144 := by omega
  have hNh := Lib.hid hN
  have hsm2 := mx_small (M := eM Q) v g1 hc100
  have hwh := Lib.hid (rn_whole S (eM Q) v)
  have hNt : (cnZ S).toNat = N := by omega
  rw [hNt] at hwh
  have hlen : Hid (0 + (rnL S (psN S (eM Q) N) v 0 []).length ≤ 1000000) := by unfold Hid; rw [hwh.out]; omega
  have hI0 : Hid (SrI S (eM Q) 0 v x c1 w.heap.size (w.alloc (.cells #[.slice x S.length c1, .slice none 0 0, .int .i64 v, .slice none 0 0] 146)) w.heap.size (.slice none 0 0)) := ⟨none, 0, [], Wb.new w _ _, World.ownsRow_nil _ _ _ _, (fun q hq => by cases hq), rfl⟩
  have hB0 : Below w.heap.size w (w.alloc (.cells #[.slice x S.length c1, .slice none 0 0, .int .i64 v, .slice none 0 0] 146)) := (by repeat (first | exact Below.refl _ _ | assumption | refine Below.drew ?_ | refine below_drewN ?_ _ | refine Below.alloc' ?_ _ | (refine Below.setCell ?_ (by first | omega | (simp; done) | (simp; omega) | exact Below.size (by assumption) | exact Nat.le_trans (Below.size (by assumption)) (by simp)) _) | (refine Below.via' ?_ (by assumption)) | (refine Below.alloc ?_ (by first | omega | (simp; done) | (simp; omega) | exact Below.size (by assumption) | exact Nat.le_trans (Below.size (by assumption)) (by simp)) _) | (refine Below.via ?_ (by assumption) (by first | omega | (simp; done) | (simp; omega) | exact Below.size (by assumption) | exact Nat.le_trans (Below.size (by assumption)) (by simp)))))
  have hB0h := Lib.hid hB0
  clear hS hQ hsm g0 g1 g2 g3 n1 n2 hN hNt hsm2 hc100 hB0
  go_enter Try.func49, Try.ntmps49
  go_wp2
  go_loopw [8] (fun c wr => ∃ i : Nat, i ≤ N ∧ c = .int .i64 i ∧ Hid (SrI S (eM Q) i v x c1 w.heap.size wr w.heap.size (.slice none 0 0)) ∧ Below w.heap.size w wr) (fun c _ => N - (intOf c).toNat)
  case atStart => exact ⟨0, by omega, rfl, hI0.out, hB0h.out⟩
  case round =>
    clear hI0 hB0h
    obtain ⟨i, hi', rfl, hI, hBr⟩ := hrel
    obtain ⟨wo, rfl⟩ : ∃ q : World, q = wr := ⟨_, rfl⟩
    have hgi := hI.out.inside
    have hNN := hNh.out
    go_wp2_with fail
    refine (sCount_any _ _ S _ hsh.out hm (hSh.out.rd.below hBr)).mono ?_
    rintro e w2 ⟨rfl, hb2⟩
    rw [hNN]
    have hB2 : Below w.heap.size w w2 := hBr.trans (hb2.mono hBr.size)
    have hI2 := Lib.hid (hI.out.below hb2)
    clear hNN hI hb2 hBr
    by_cases hlt : i < N
    · have hlt' : (i : Int) < (N : Int) := by omega
      go_wp2_with fail
      refine (sAt_any _ _ S i _ hsh.out (by omega) (by have := hNh.out; omega) hm (hSh.out.rd.below hB2)).mono ?_
      rintro e w3 ⟨u3, rfl, ho3, hb3⟩
      obtain ⟨x3, n3, rfl, -, -⟩ := (OwR.of ho3).form
      have hin := Lib.hid (atL_iin hsh.out (show (0 : Int) ≤ (i : Int) by omega) (Rd.of_own ho3))
      have hB3 : Below w.heap.size w w3 := hB2.trans (hb3.mono hB2.size)
      have row3 := Lib.hid (own_more ho3 hB2.size)
      have hI3 := Lib.hid (hI2.out.below hb3)
      clear ho3 hb3 hI2
      go_wp2_with fail
      refine (eFailed_any _ _ _ _ Q (atL S i) _ hq40 (fun E hE => fine_of hsh.out (hedh.out E hE) (at_fitE hsh.out (by omega))) (hQh.out.below hB3) hin.out).mono ?_
      rintro e w4 ⟨u4, rfl, ho4, hb4⟩
      obtain ⟨x4, n4, rfl, -, -⟩ := (OwR.of ho4).form
      have hB4 : Below w.heap.size w w4 := hB3.trans (hb4.mono hB3.size)
      have row4 := Lib.hid (own_below row3.out hb4)
      have hI4 := Lib.hid (hI3.out.below hb4)
      have hs4 := hB4.size
      clear ho4 hb4 hI3 row3
      cases hfa : faB (eM Q) (atL S i)
      · have hz : (((feL (eM Q) (atL S i)).length : Int) == 0) = true := by rw [beq_iff_eq]; have := fe_none.2 hfa; omega
        have hst := Lib.hid (psL_yes (M := eM Q) hfa)
        obtain ⟨y4, d4, T, hW, hrow, hins, hM⟩ := hI4.out
        have hTl : T.length ≤ 262144 := by have h0 := psL_len S (eM Q) i; rw [← hM, eM_len] at h0; omega
        have ka := (hW.read 1).trans rfl
        have kb := hW.inside
        have hWh := Lib.hid hW
        have hrowh := Lib.hid hrow
        have hinsh := Lib.hid hins
        have hMh := Lib.hid hM
        clear hW hrow hins hM
        go_wp2_with (at_builtin; go_loud (refine wpList_append_rd _ rfl (.tmp 32) (.tmp 34) 144 rfl w.heap.size 24 i0 (.slice none 0 0) 1 24 Try.underlying144 hi hz0 hz1 hz2 rfl (by decide) _ T.length (eC T) rfl (hrowh.out.alloc _) _ 1 1 rfl (Nat.le_refl _) (by intro h; cases h) (eC [(⟨0, 0, x3, n3, atL S (i : Int)⟩ : PR)]) rfl (Rd.oneEdM _ _ _ _ _ _ (by simp)) (eC_one _) (by unfold maxLen; omega) (by omega) (by simp; omega) ?_); intro v5 w5 hown5 hgrow5 hwhere5; (obtain ⟨z5, c5, rfl, -, -⟩ := (OwR.of hown5).form); (obtain ⟨hW5, hI5⟩ := psi_grow (q := ⟨0, 0, x3, n3, atL S (i : Int)⟩) hWh.out hrowh.out hinsh.out hMh.out row4.out hst.out hgrow5 hown5); (have kc := (hW5.read 1).trans rfl); (have kd := hW5.free 1); (have ke := hW5.inside); (have hB5 := Lib.hid ((hB4.alloc hs4 _).grown hgrow5 (by simp; omega) (fun k hk => (hrowh.out.lt k hk).1))); (replace hI5 := Lib.hid hI5); clear hW5)
        clear hgrow5 hwhere5 hown5
        go_wp2
        go_roundw
        case rel => exact ⟨i + 1, by omega, by go_num, hI5.out, (hB5.out.setCell (p := ⟨w.heap.size, 1, none⟩) (Nat.le_refl _) _)⟩
        case measure => simp [intOf]; omega
      · have hz : (((feL (eM Q) (atL S i)).length : Int) == 0) = false := by
          rw [beq_eq_false_iff_ne]
          intro h
          have := fe_none.1 (show (feL (eM Q) (atL S i)).length = 0 by omega)
          rw [hfa] at this
          cases this
        have hst := Lib.hid (psL_no (M := eM Q) hfa)
        go_wp2
        go_roundw
        case rel =>
          refine ⟨i + 1, by omega, by go_num, ?_, hB4⟩
          obtain ⟨y4, d4, T, hW, hrow, hins, hM⟩ := hI4.out
          exact ⟨y4, d4, T, hW, hrow, hins, by rw [hM, hst.out]⟩
        case measure => simp [intOf]; omega
    · have hij : i = N := by omega
      subst hij
      have hrun := Lib.hid (run_any w.heap.size x c1 w.heap.size S (eM Q) i v w hN2 hsh.out hSh.out (Nat.le_refl _) (Nat.le_refl _) S.length 0 (by omega) none 0 [] (.slice none 0 0) [] w2 rfl (fun r hr => by rw [List.drop_zero] at hr; exact en_ed hsh.out hr) hlen.out hI2.out (OwL.nil _ _) hB2.size (World.ownsRow_nil _ _ _ _) hB2)
      go_wp2_with fail
      refine hrun.out.mono ?_
      rintro e w5 ⟨⟨r, rfl⟩, u5, T5, hI5, hO5, hM5, hk5, hB5⟩
      obtain ⟨y5, d5, TT, hW5, -, -, -⟩ := hI5
      have ka := (hW5.read 3).trans rfl
      have kb := hW5.inside
      have hM5 := Lib.hid hM5
      have hO5 := Lib.hid hO5
      clear hW5 hk5 hrun
      go_wp2
      go_ret
      exact ⟨_, T5, rfl, by rw [hM5.out, hwh.out]; rfl, hO5.out, hB5⟩
/-- A small schema, edits, and the index of a variable. -/
def elvB (S : List (ByteArray × Int)) (M : List (List Int)) (v : Int) : Bool := smB S M && inB v 0 ((S.length : Int) - 1)
theorem elv_no1 {S : List (ByteArray × Int)} {M : List (List Int)} {v : Int} (h : smB S M = false) : elvB S M v = false := by unfold elvB; rw [h]; rfl
theorem elv_no2 {S : List (ByteArray × Int)} {M : List (List Int)} {v : Int} (h : inB v 0 ((S.length : Int) - 1) = false) : elvB S M v = false := by unfold elvB; rw [h, Bool.and_false]
theorem elv_yes {S : List (ByteArray × Int)} {M : List (List Int)} {v : Int} (h : smB S M = true) (k : inB v 0 ((S.length : Int) - 1) = true) : elvB S M v = true := by unfold elvB; rw [h, k]; rfl
theorem tot_eML (T : List PR) : tot T = ((eM T).map List.length).sum := by unfold tot eM; rw [List.map_map]; rfl
theorem sum_len {n : Nat} : ∀ (L : List (List Int)), (∀ e ∈ L, e.length = n) → (L.map List.length).sum = L.length * n
  | [], _ => by simp
  | e :: L, h => by
    rw [List.map_cons, List.sum_cons, sum_len L (fun f hf => h f (List.mem_cons_of_mem _ hf)), h e (List.mem_cons_self ..), List.length_cons, Nat.succ_mul]
    omega
theorem mx_tot {S : List (ByteArray × Int)} {M : List (List Int)} {v : Int} {b : Bool} (h : b = true → smB S M = true) : (eE b (mxL S M v)).length ≤ 1048576 ∧ ((eE b (mxL S M v)).map List.length).sum ≤ 1048576 := by
  cases b with
  | false => exact ⟨by simp [eE], by simp [eE]⟩
  | true =>
    obtain ⟨h1, h2⟩ := sm_get (h rfl)
    have hs := (el_get h1).1
    obtain ⟨h3, h4⟩ := mx_small (M := M) v hs h2
    rw [eE_yes _ rfl, sum_len _ (fun e he => ed_len (mx_ed hs he))]
    exact ⟨by omega, by omega⟩
theorem elv_sm {S : List (ByteArray × Int)} {M : List (List Int)} {v : Int} (h : elvB S M v = true) : smB S M = true := by unfold elvB at h; rw [Bool.and_eq_true] at h; exact h.1
end Go.Proofs.Ytgkaalonmkcclab

namespace Go.Proofs.Ytgkaalonmkcclab
open Go.RowKit
set_option maxRecDepth 100000

theorem cn_nat {S : List (ByteArray × Int)} (hs : schB S = true) : cnZ S = ((cnZ S).toNat : Int) := by
  have := (cn_all hs).1
  omega
theorem own_cap {w : World} {base t s n : Nat} {x : Option Addr} {c : Nat} {xs : List Value} (h : w.ownsRow base t s (.slice x n c) n xs) : n ≤ c := by
  obtain ⟨_, _, e, h, _⟩ := (OwR.of h).form
  injection e with _ _ e
  omega
set_option maxHeartbeats 1000000 in
theorem maximalEdits_any (x y : Option Addr) (c1 c2 : Nat) (S : List (ByteArray × Int)) (Q : List PR) (w : World) (hel : elB S (eM Q) = true) (hcn : cnZ S ≤ 100) (hS : SIn w x c1 S) (hQ : EIn w y Q) :
    Calls Try.prog 61 #[.slice x S.length c1, .slice y Q.length c2] w (MfPost (mxL S (eM Q) (-1)) w) := by
  have hs := (el_get hel).1
  have hN := cn_nat hs
  have hSh := Lib.hid hS
  have hQh := Lib.hid hQ
  have hsh := Lib.hid hs
  have helh := Lib.hid hel
  have hNh := Lib.hid hN
  have hch := Lib.hid hcn
  have hsl := schB_len hs
  clear hel hcn hS hQ hs hN
  go_enter Try.func61, Try.ntmps61
  go_wp2_with fail
  refine (leastSets_any _ _ S _ hsh.out).mono ?_
  rintro e w1 ⟨u1, rfl, ho1, hb1⟩
  obtain ⟨g1, k1, rfl⟩ := own_some ho1 (by omega)
  have hcap := own_cap ho1
  have ho1h := Lib.hid ho1
  clear ho1
  go_wp2_with fail
  refine (impliedBy_any _ _ _ _ S Q _ helh.out (hSh.out.below (by exact (by repeat (first | exact Below.refl _ _ | assumption | refine Below.drew ?_ | refine below_drewN ?_ _ | refine Below.alloc' ?_ _ | (refine Below.setCell ?_ (by first | omega | (simp; done) | (simp; omega) | exact Below.size (by assumption) | exact Nat.le_trans (Below.size (by assumption)) (by simp)) _) | (refine Below.via' ?_ (by assumption)) | (refine Below.alloc ?_ (by first | omega | (simp; done) | (simp; omega) | exact Below.size (by assumption) | exact Nat.le_trans (Below.size (by assumption)) (by simp)) _) | (refine Below.via ?_ (by assumption) (by first | omega | (simp; done) | (simp; omega) | exact Below.size (by assumption) | exact Nat.le_trans (Below.size (by assumption)) (by simp))))))) (hQh.out.below (by exact (by repeat (first | exact Below.refl _ _ | assumption | refine Below.drew ?_ | refine below_drewN ?_ _ | refine Below.alloc' ?_ _ | (refine Below.setCell ?_ (by first | omega | (simp; done) | (simp; omega) | exact Below.size (by assumption) | exact Nat.le_trans (Below.size (by assumption)) (by simp)) _) | (refine Below.via' ?_ (by assumption)) | (refine Below.alloc ?_ (by first | omega | (simp; done) | (simp; omega) | exact Below.size (by assumption) | exact Nat.le_trans (Below.size (by assumption)) (by simp)) _) | (refine Below.via ?_ (by assumption) (by first | omega | (simp; done) | (simp; omega) | exact Below.size (by assumption) | exact Nat.le_trans (Below.size (by assumption)) (by simp))))))) _ hNh.out).mono ?_
  rintro e w2 ⟨B, rfl, hI, hb2⟩
  have hIh := Lib.hid hI
  have ho2 := Lib.hid (own_below ho1h.out hb2)
  have hB2 : Below w.heap.size w w2 := (by repeat (first | exact Below.refl _ _ | assumption | refine Below.drew ?_ | refine below_drewN ?_ _ | refine Below.alloc' ?_ _ | (refine Below.setCell ?_ (by first | omega | (simp; done) | (simp; omega) | exact Below.size (by assumption) | exact Nat.le_trans (Below.size (by assumption)) (by simp)) _) | (refine Below.via' ?_ (by assumption)) | (refine Below.alloc ?_ (by first | omega | (simp; done) | (simp; omega) | exact Below.size (by assumption) | exact Nat.le_trans (Below.size (by assumption)) (by simp)) _) | (refine Below.via ?_ (by assumption) (by first | omega | (simp; done) | (simp; omega) | exact Below.size (by assumption) | exact Nat.le_trans (Below.size (by assumption)) (by simp)))))
  clear hI
  go_wp2_with fail
  refine (maximalFrom_any (-1) _ _ _ _ B S (eM Q) _ _ hsh.out hch.out (hSh.out.below (by exact (by repeat (first | exact Below.refl _ _ | assumption | refine Below.drew ?_ | refine below_drewN ?_ _ | refine Below.alloc' ?_ _ | (refine Below.setCell ?_ (by first | omega | (simp; done) | (simp; omega) | exact Below.size (by assumption) | exact Nat.le_trans (Below.size (by assumption)) (by simp)) _) | (refine Below.via' ?_ (by assumption)) | (refine Below.alloc ?_ (by first | omega | (simp; done) | (simp; omega) | exact Below.size (by assumption) | exact Nat.le_trans (Below.size (by assumption)) (by simp)) _) | (refine Below.via ?_ (by assumption) (by first | omega | (simp; done) | (simp; omega) | exact Below.size (by assumption) | exact Nat.le_trans (Below.size (by assumption)) (by simp))))))) (Rd.of_own ho2.out) hcap hIh.out).mono ?_
  rintro e w3 ⟨u, T, rfl, hM, ho3, hb3⟩
  have hM := Lib.hid hM
  have ho3 := Lib.hid (ho3.more hB2.size)
  go_wp2
  go_ret
  exact ⟨_, T, rfl, hM.out, ho3.out, (by repeat (first | exact Below.refl _ _ | assumption | refine Below.drew ?_ | refine below_drewN ?_ _ | refine Below.alloc' ?_ _ | (refine Below.setCell ?_ (by first | omega | (simp; done) | (simp; omega) | exact Below.size (by assumption) | exact Nat.le_trans (Below.size (by assumption)) (by simp)) _) | (refine Below.via' ?_ (by assumption)) | (refine Below.alloc ?_ (by first | omega | (simp; done) | (simp; omega) | exact Below.size (by assumption) | exact Nat.le_trans (Below.size (by assumption)) (by simp)) _) | (refine Below.via ?_ (by assumption) (by first | omega | (simp; done) | (simp; omega) | exact Below.size (by assumption) | exact Nat.le_trans (Below.size (by assumption)) (by simp)))))⟩
theorem lw_set {S : List (ByteArray × Int)} {k : Nat} (h : k < S.length) : (lwL (bnS S (-1))).set k (flZ (lvA S k)) = lwL (bnS S (k : Int)) := by
  apply List.ext_getElem?
  intro j
  unfold lwL
  rw [List.getElem?_set, List.getElem?_map, List.length_map, bn_len]
  by_cases hj : k = j
  · subst hj
    rw [if_pos rfl, if_pos h, List.getElem?_map, bn_at h]
    show _ = some (bnA S (k : Int) k)
    rw [bn_full rfl]
  · rw [if_neg hj, List.getElem?_map]
    by_cases hl : j < S.length
    · rw [bn_at hl, bn_at hl]
      show some (bnA S (-1) j) = some (bnA S (k : Int) j)
      rw [bn_one (by omega), bn_one (by omega)]
    · rw [List.getElem?_eq_none (by rw [bn_len]; omega), List.getElem?_eq_none (by rw [bn_len]; omega)]
end Go.Proofs.Ytgkaalonmkcclab

namespace Go.Proofs.Ytgkaalonmkcclab
open Go.RowKit
set_option maxRecDepth 100000

set_option maxHeartbeats 1000000 in
theorem l1Has_any (y : Option Addr) (c : Nat) (L : List Int) (n : Int) (w : World) (hL : IIn w y L) :
    Calls Try.prog 68 #[.slice y L.length c, .int .i64 n] w fun e w' => e = .returned (.bool (L.contains n)) ∧ w = w' := by
  have hLh := Lib.hid hL
  have hLl := hL.1
  clear hL
  go_enter Try.func68, Try.ntmps68
  go_wp2
  go_loopw [9] (fun c wr => ∃ i : Nat, i ≤ L.length ∧ c = .int .i64 i ∧ Hid (∀ j, j < i → ¬ L[j]? = some n) ∧ w = wr) (fun c _ => L.length - (intOf c).toNat)
  case atStart => exact ⟨0, by omega, rfl, (fun j hj => absurd hj (by omega)), rfl⟩
  case round =>
    obtain ⟨i, hi, rfl, hall, rfl⟩ := hrel
    by_cases hlt : i < L.length
    · obtain ⟨bl, off, v, rfl, hbl, hLi, hc0⟩ := hLh.out.2.2.int hlt
      have hLih := Lib.hid hLi
      have hlt' : (i : Int) < (L.length : Int) := by omega
      have hi0 : (0 : Int) ≤ (i : Int) := by omega
      clear hLi
      by_cases he : v = n
      · have hv : Hid (L.contains n = true) := by unfold Hid; rw [List.contains_iff_mem, ← he]; exact List.mem_of_getElem? hLih.out
        have heb : (v == n) = true := by rw [beq_iff_eq]; exact he
        replace he := Lib.hid he
        go_wp2
        go_ret
        exact ⟨ret_bool hv.out.symm, rfl⟩
      · have heb : (v == n) = false := by rw [beq_eq_false_iff_ne]; exact he
        have hne : Hid (¬ L[i]? = some n) := by unfold Hid; rw [hLih.out]; intro h; exact he (Option.some.inj h)
        replace he := Lib.hid he
        go_wp2
        go_roundw
        case rel =>
          refine ⟨i + 1, by omega, by go_num, fun j hj => ?_, by first | rfl | trivial⟩
          rcases Nat.lt_or_ge j i with hj2 | hj2
          · exact hall.out j hj2
          · obtain rfl : j = i := by omega
            exact hne.out
        case measure => simp [intOf]; omega
    · have hij : i = L.length := by omega
      subst hij
      have hv : Hid (L.contains n = false) := by
        unfold Hid
        cases h : L.contains n with
        | false => rfl
        | true =>
          rw [List.contains_iff_mem] at h
          obtain ⟨j, hj, e⟩ := List.getElem_of_mem h
          exact absurd (by rw [List.getElem?_eq_getElem hj, e]) (hall.out j hj)
      clear hall
      go_wp2
      go_ret
      exact ⟨ret_bool hv.out.symm, rfl⟩
/-- What slices.Index tells of a list and a number. -/
def ixP (L : List Int) (n k : Int) : Prop := -1 ≤ k ∧ k < 1048577 ∧ decide (0 ≤ k) = L.contains n
set_option maxHeartbeats 1000000 in
theorem index_any (y : Option Addr) (c : Nat) (L : List Int) (n : Int) (w : World) (hL : IIn w y L) :
    Calls Try.prog 119 #[.slice y L.length c, .int .i64 n] w fun e w' => ∃ k, e = .returned (.int .i64 k) ∧ ixP L n k ∧ w = w' := by
  have hLh := Lib.hid hL
  have hLl := hL.1
  clear hL
  go_enter Try.func119, Try.ntmps119
  go_wp2
  go_loopw [8] (fun c wr => ∃ i : Nat, i ≤ L.length ∧ c = .int .i64 i ∧ Hid (∀ j, j < i → ¬ L[j]? = some n) ∧ w = wr) (fun c _ => L.length - (intOf c).toNat)
  case atStart => exact ⟨0, by omega, rfl, (fun j hj => absurd hj (by omega)), rfl⟩
  case round =>
    obtain ⟨i, hi, rfl, hall, rfl⟩ := hrel
    by_cases hlt : i < L.length
    · obtain ⟨bl, off, v, rfl, hbl, hLi, hc0⟩ := hLh.out.2.2.int hlt
      have hLih := Lib.hid hLi
      have hlt' : (i : Int) < (L.length : Int) := by omega
      have hi0 : (0 : Int) ≤ (i : Int) := by omega
      clear hLi
      by_cases he : v = n
      · have hv : Hid (L.contains n = true) := by unfold Hid; rw [List.contains_iff_mem, ← he]; exact List.mem_of_getElem? hLih.out
        have heb : (n == v) = true := by rw [beq_iff_eq]; exact he.symm
        replace he := Lib.hid he
        go_wp2
        go_ret
        exact ⟨_, rfl, ⟨by omega, by omega, by rw [hv.out]; exact decide_eq_true (by omega)⟩, rfl⟩
      · have heb : (n == v) = false := by rw [beq_eq_false_iff_ne]; exact fun h => he h.symm
        have hne : Hid (¬ L[i]? = some n) := by unfold Hid; rw [hLih.out]; intro h; exact he (Option.some.inj h)
        replace he := Lib.hid he
        go_wp2
        go_roundw
        case rel =>
          refine ⟨i + 1, by omega, by go_num, fun j hj => ?_, by first | rfl | trivial⟩
          rcases Nat.lt_or_ge j i with hj2 | hj2
          · exact hall.out j hj2
          · obtain rfl : j = i := by omega
            exact hne.out
        case measure => simp [intOf]; omega
    · have hij : i = L.length := by omega
      subst hij
      have hv : Hid (L.contains n = false) := by
        unfold Hid
        cases h : L.contains n with
        | false => rfl
        | true =>
          rw [List.contains_iff_mem] at h
          obtain ⟨j, hj, e⟩ := List.getElem_of_mem h
          exact absurd (by rw [List.getElem?_eq_getElem hj, e]) (hall.out j hj)
      clear hall
      go_wp2
      go_ret
      exact ⟨_, rfl, ⟨by omega, by omega, by rw [hv.out]; exact decide_eq_false (by omega)⟩, rfl⟩
theorem contains_any (y : Option Addr) (c : Nat) (L : List Int) (n : Int) (w : World) (hL : IIn w y L) :
    Calls Try.prog 60 #[.slice y L.length c, .int .i64 n] w fun e w' => e = .returned (.bool (L.contains n)) ∧ w = w' := by
  go_enter Try.func60, Try.ntmps60
  go_wp2_with fail
  refine (index_any _ _ L n _ hL).mono ?_
  rintro e w1 ⟨k, rfl, ⟨h0, h1, h2⟩, rfl⟩
  have hv := Lib.hid h2
  clear h2
  go_wp2
  go_ret
  exact ⟨ret_bool hv.out, rfl⟩
end Go.Proofs.Ytgkaalonmkcclab

namespace Go.Proofs.Ytgkaalonmkcclab
open Go.RowKit
set_option maxRecDepth 100000

/-- The variables in which two lists of values differ. -/
def dvB (V X : List Int) (i : Nat) : Bool := !decide (V[i]? = X[i]?)
def dvL (V X : List Int) : List Int := pkUp (dvB V X) V.length
theorem dvL_len (V X : List Int) : (dvL V X).length ≤ V.length := pkUp_len _ _
theorem pk_iinW {w : World} {x : Option Addr} {p : Nat → Bool} {n : Nat} (hn : n ≤ 1000) (h : Rd w x (iC (pkUp p n))) : IIn w x (pkUp p n) := ⟨by have := pkUp_len p n; omega, fun v hv => by
  obtain ⟨i, rfl, hi, _⟩ := pkUp_mem hv
  unfold IsI64
  omega, h⟩
theorem pk_iin {w : World} {x : Option Addr} {p : Nat → Bool} {n : Nat} (hn : n ≤ 1000) (h : Rd w x (iC (pkUp p n))) : IIn w x (pkUp p n) := ⟨by have := pkUp_len p n; omega, fun v hv => by
  obtain ⟨i, rfl, hi, _⟩ := pkUp_mem hv
  unfold IsI64
  omega, h⟩
set_option maxHeartbeats 2000000 in
theorem differing_any (y z : Option Addr) (c1 c2 : Nat) (V X : List Int) (w : World) (hl : V.length = X.length) (h6 : V.length ≤ 1000) (hV : IIn w y V) (hX : IIn w z X) :
    Calls Try.prog 126 #[.slice y V.length c1, .slice z X.length c2] w (RetL (dvL V X) w) := by
  obtain ⟨i0, hii, hz0, hz1, hz2⟩ := info_parts Try.infoInt
  have hVh := Lib.hid hV
  have hXh := Lib.hid hX
  have hlh := Lib.hid hl
  clear hV hX hl
  go_enter Try.func126, Try.ntmps126
  go_wp2
  go_loopw [5, 9] (fun u c wr => ∃ i : Nat, i ≤ V.length ∧ c = .int .i64 i ∧ wr.ownsRow w.heap.size 3 1 u (pkUp (dvB V X) i).length (iC (pkUp (dvB V X) i)) ∧ Below w.heap.size w wr) (fun _ c _ => V.length - (intOf c).toNat)
  case atStart => exact ⟨0, by omega, rfl, World.ownsRow_nil _ _ _ _, (by repeat (first | exact Below.refl _ _ | assumption | refine Below.drew ?_ | refine below_drewN ?_ _ | refine Below.alloc' ?_ _ | (refine Below.setCell ?_ (by first | omega | (simp; done) | (simp; omega) | exact Below.size (by assumption) | exact Nat.le_trans (Below.size (by assumption)) (by simp)) _) | (refine Below.via' ?_ (by assumption)) | (refine Below.alloc ?_ (by first | omega | (simp; done) | (simp; omega) | exact Below.size (by assumption) | exact Nat.le_trans (Below.size (by assumption)) (by simp)) _) | (refine Below.via ?_ (by assumption) (by first | omega | (simp; done) | (simp; omega) | exact Below.size (by assumption) | exact Nat.le_trans (Below.size (by assumption)) (by simp)))))⟩
  case round =>
    obtain ⟨i, hi, rfl, hown, hBr⟩ := hrel
    have hownh := Lib.hid hown
    clear hown
    have hsl := pkUp_len (dvB V X) i
    by_cases hlt : i < V.length
    · obtain ⟨bl, off, a, rfl, hbl, hVi, hc0⟩ := (hVh.out.below hBr).2.2.int hlt
      obtain ⟨bl2, off2, d, rfl, hbl2, hXi, hc1⟩ := (hXh.out.below hBr).2.2.int (i := i) (by have := hlh.out; omega)
      have hlt' : (i : Int) < (V.length : Int) := by omega
      have hlt2 : (i : Int) < (X.length : Int) := by have := hlh.out; omega
      have hi0 : (0 : Int) ≤ (i : Int) := by omega
      by_cases he : a = d
      · have hsel : Hid (pkUp (dvB V X) (i + 1) = pkUp (dvB V X) i) := pkUp_no (by unfold dvB; rw [hVi, hXi, he]; simp)
        have heb : (a == d) = true := by rw [beq_iff_eq]; exact he
        replace he := Lib.hid he
        replace hVi := Lib.hid hVi
        replace hXi := Lib.hid hXi
        go_wp2
        go_region
        all_goals
          go_wp2
          go_roundw
          case rel => exact ⟨i + 1, by omega, by go_num, by rw [hsel.out]; exact hownh.out, (by repeat (first | exact Below.refl _ _ | assumption | refine Below.drew ?_ | refine below_drewN ?_ _ | refine Below.alloc' ?_ _ | (refine Below.setCell ?_ (by first | omega | (simp; done) | (simp; omega) | exact Below.size (by assumption) | exact Nat.le_trans (Below.size (by assumption)) (by simp)) _) | (refine Below.via' ?_ (by assumption)) | (refine Below.alloc ?_ (by first | omega | (simp; done) | (simp; omega) | exact Below.size (by assumption) | exact Nat.le_trans (Below.size (by assumption)) (by simp)) _) | (refine Below.via ?_ (by assumption) (by first | omega | (simp; done) | (simp; omega) | exact Below.size (by assumption) | exact Nat.le_trans (Below.size (by assumption)) (by simp)))))⟩
          case measure => simp [intOf]; omega
      · have hsel : Hid (pkUp (dvB V X) (i + 1) = pkUp (dvB V X) i ++ [(i : Int)]) := pkUp_yes (by unfold dvB; rw [hVi, hXi]; simp [he])
        have heb : (a == d) = false := by rw [beq_eq_false_iff_ne]; exact he
        replace he := Lib.hid he
        replace hVi := Lib.hid hVi
        replace hXi := Lib.hid hXi
        go_wp2
        go_upto_region 5 with fail
        go_cut [20] (fun s20 wx => s20 = .bool true ∧ Hid (wx.ownsRow w.heap.size 3 1 u5 (pkUp (dvB V X) i).length (iC (pkUp (dvB V X) i))) ∧ Below w.heap.size w wx)
        case first =>
          go_region
          all_goals
            go_wp2_with fail
            go_meet
            exact ⟨by rw [bne, heb]; rfl, hownh.out, (by repeat (first | exact Below.refl _ _ | assumption | refine Below.drew ?_ | refine below_drewN ?_ _ | refine Below.alloc' ?_ _ | (refine Below.setCell ?_ (by first | omega | (simp; done) | (simp; omega) | exact Below.size (by assumption) | exact Nat.le_trans (Below.size (by assumption)) (by simp)) _) | (refine Below.via' ?_ (by assumption)) | (refine Below.alloc ?_ (by first | omega | (simp; done) | (simp; omega) | exact Below.size (by assumption) | exact Nat.le_trans (Below.size (by assumption)) (by simp)) _) | (refine Below.via ?_ (by assumption) (by first | omega | (simp; done) | (simp; omega) | exact Below.size (by assumption) | exact Nat.le_trans (Below.size (by assumption)) (by simp)))))⟩
        obtain ⟨rfl, ow, hBx⟩ := hcut
        obtain ⟨wx, rfl⟩ : ∃ x : World, x = wc := ⟨_, rfl⟩
        clear hc0 hc1 hbl hbl2 hownh hBr
        have hlow := hBx.size
        go_wp2_with (at_builtin; go_loud (refine wpList_append_rd _ rfl (.tmp 21) (.tmp 23) 24 rfl (w.heap.size) 3 i0 (.int .i64 0) 1 8 Try.underlying24 hii hz0 hz1 hz2 rfl (by decide) _ (pkUp (dvB V X) i).length (iC (pkUp (dvB V X) i)) rfl ((ow.out.alloc _)) _ 1 1 rfl (Nat.le_refl _) (by intro h; cases h) (iC [((i : Int) : Int)]) rfl (rd_oneE _ _ _ _ (by simp)) (iC_one _) (by unfold maxLen; omega) (by omega) (by simp; omega) ?_); intro v3 w3 hown3 hgrow3 hwhere3)
        obtain ⟨hb4, -⟩ := append_below hBx (fun k hk => (ow.out.lt k hk).1) hgrow3 hwhere3
        have hown3 := Lib.hid (own_snocE hown3 hsel.out rfl)
        clear hgrow3 hwhere3
        go_wp2
        go_roundw
        case rel => exact ⟨i + 1, by omega, by go_num, hown3.out, hb4⟩
        case measure => simp [intOf]; omega
    · have hij : i = V.length := by omega
      subst hij
      go_wp2
      go_ret
      exact ⟨_, rfl, hownh.out, hBr⟩
end Go.Proofs.Ytgkaalonmkcclab
