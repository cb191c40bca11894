import Derived.Test.YtmcibcechffppaaPnU
import Derived.Test.YtmcibcechffppaaPnR
import Derived.Test.YtmcibcechffppaaPnB
namespace Go.Proofs.Ytmcibcechffppaa
open Go.RowKit
set_option maxRecDepth 100000

theorem Try.infoBnd : (Try.prog.info? 94).map (fun i => (i.zero, i.size, i.bytes)) = some (some (.agg #[.int .i64 0, .int .i64 0]), 2, 16) := by kernel_rfl
theorem bC_rep : ∀ n, bC (List.replicate n (0, 0)) = List.replicate (n * 2) (Value.int .i64 0)
  | 0 => rfl
  | n + 1 => by
    rw [List.replicate_succ, show (n + 1) * 2 = n * 2 + 1 + 1 by omega, List.replicate_succ, List.replicate_succ]
    simp only [bC]
    rw [bC_rep n]
theorem made_bnd (n : Nat) : (madeCells (Value.agg #[.int .i64 0, .int .i64 0]).cells (n * 2)).toList = bC (List.replicate n (0, 0)) := by
  rw [bC_rep]
  apply List.ext_getElem?
  intro j
  rw [List.getElem?_replicate]
  by_cases h : j < n * 2
  · have h2 : j % 2 = 0 ∨ j % 2 = 1 := by omega
    rcases h2 with h2 | h2 <;> simp [madeCells, Value.cells, h, h2]
  · simp [madeCells, Value.cells, h]
/-- The array of bounded edits, filled up to a place. -/
def beD (W : List Int) (Iv : List (List Int)) (i : Nat) : List (Int × Int) := (beL W Iv).take i ++ List.replicate (Iv.length - i) (0, 0)
theorem beD_zero (W : List Int) (Iv : List (List Int)) : beD W Iv 0 = List.replicate Iv.length (0, 0) := by unfold beD; simp
theorem beD_all (W : List Int) (Iv : List (List Int)) : beD W Iv Iv.length = beL W Iv := by unfold beD; rw [← be_len W Iv, List.take_length, Nat.sub_self]; simp
theorem beD_len {W : List Int} {Iv : List (List Int)} {i : Nat} (h : i ≤ Iv.length) : (beD W Iv i).length = Iv.length := by unfold beD; rw [List.length_append, List.length_take, be_len, List.length_replicate]; omega
theorem beD_set {W : List Int} {Iv : List (List Int)} {i : Nat} {L : List Int} (h : Iv[i]? = some L) : (beD W Iv i).set i ((mkN L : Int), lwZ W L) = beD W Iv (i + 1) := by
  have hi := (List.getElem?_eq_some_iff.1 h).1
  have hb := be_at (W := W) h
  unfold beD
  rw [take_snoc hb, List.set_append_right _ _ (by rw [List.length_take, be_len]; omega), List.length_take, be_len, show i - min i Iv.length = 0 by omega, show Iv.length - i = (Iv.length - (i + 1)) + 1 by omega, List.replicate_succ, List.set_cons_zero, List.append_assoc]
  rfl
/-- A number, a list and a Bool, handed back. -/
def RetILB (n : Int) (L : List Int) (b : Bool) (w : World) (e : Ending) (w' : World) : Prop := ∃ v, e = .returned (.tuple #[.int .i64 n, v, .bool b]) ∧ w'.ownsRow w.heap.size 3 1 v L.length (iC L) ∧ Below w.heap.size w w'
theorem retILB_no {S : List (ByteArray × Int)} {M : List (List Int)} {W V : List Int} {w w' : World} (h : pbG S M W V = false) (hB : Below w.heap.size w w') : RetILB (pbZ S M W V) (pbL S M W V) (pbG S M W V) w (.returned (.tuple #[.int .i64 0, .slice none 0 0, .bool false])) w' := by
  obtain ⟨h1, h2⟩ := pb_no h
  rw [h1, h2, h]
  exact ⟨_, rfl, World.ownsRow_nil _ _ _ _, hB⟩
theorem retILB_yes {S : List (ByteArray × Int)} {M : List (List Int)} {W V L : List Int} {n : Int} {v : Value} {w w' : World} (h : pbG S M W V = true) (h1 : pbZ S M W V = n) (h2 : pbL S M W V = L) (ho : w'.ownsRow w.heap.size 3 1 v L.length (iC L)) (hB : Below w.heap.size w w') : RetILB (pbZ S M W V) (pbL S M W V) (pbG S M W V) w (.returned (.tuple #[.int .i64 n, v, .bool true])) w' := by
  rw [h1, h2, h]
  exact ⟨_, rfl, ho, hB⟩
theorem pk_l_yes {W : List Int} {Iv : List (List Int)} {K : List Int} {x : Int} {i : Nat} {k : Int} (hb : hsB x i = true) (hk : K[i]? = some k) : (pkF W Iv K (lvsUp x (i + 1))).l = (pkF W Iv K (lvsUp x i)).l ++ [k] := by
  rw [lvsUp_yes hb, pk_snoc]
  unfold pkStep
  rw [Int.toNat_natCast, hk]
  rfl
set_option maxHeartbeats 8000000 in
theorem iPB_x (x y z u : Option Addr) (c1 c2 c3 c4 : Nat) (S : List (ByteArray × Int)) (Q : List PR) (W V : List Int) (w : World) (hS : SIn w x c1 S) (hQ : EIn w y Q) (hW : IIn w z W) (hV : IIn w u V) :
    Calls Try.prog 35 #[.slice x S.length c1, .slice y Q.length c2, .slice z W.length c3, .slice u V.length c4] w (RetILB (pbZ S (eM Q) W V) (pbL S (eM Q) W V) (pbG S (eM Q) W V) w) := by
  obtain ⟨j0, hjj, hy0, hy1, hy2⟩ := info_parts Try.infoBnd
  obtain ⟨i0, hii, hz0, hz1, hz2⟩ := info_parts Try.infoInt
  have hSh := Lib.hid hS
  have hQh := Lib.hid hQ
  have hWh := Lib.hid hW
  have hVh := Lib.hid hV
  clear hS hQ hW hV
  go_enter Try.func35, Try.ntmps35
  go_wp2_with fail
  refine (canBeMended_any _ _ _ _ _ _ _ _ S Q W V _ (hSh.out.below (by exact (by repeat (first | exact Below.refl _ _ | assumption | refine Below.drew ?_ | refine below_drewN ?_ _ | refine Below.alloc' ?_ _ | (refine Below.setCell ?_ (by first | omega | (simp; done) | (simp; omega) | exact Below.size (by assumption) | exact Nat.le_trans (Below.size (by assumption)) (by simp)) _) | (refine Below.via' ?_ (by assumption)) | (refine Below.alloc ?_ (by first | omega | (simp; done) | (simp; omega) | exact Below.size (by assumption) | exact Nat.le_trans (Below.size (by assumption)) (by simp)) _) | (refine Below.via ?_ (by assumption) (by first | omega | (simp; done) | (simp; omega) | exact Below.size (by assumption) | exact Nat.le_trans (Below.size (by assumption)) (by simp))))))) (hQh.out.below (by exact (by repeat (first | exact Below.refl _ _ | assumption | refine Below.drew ?_ | refine below_drewN ?_ _ | refine Below.alloc' ?_ _ | (refine Below.setCell ?_ (by first | omega | (simp; done) | (simp; omega) | exact Below.size (by assumption) | exact Nat.le_trans (Below.size (by assumption)) (by simp)) _) | (refine Below.via' ?_ (by assumption)) | (refine Below.alloc ?_ (by first | omega | (simp; done) | (simp; omega) | exact Below.size (by assumption) | exact Nat.le_trans (Below.size (by assumption)) (by simp)) _) | (refine Below.via ?_ (by assumption) (by first | omega | (simp; done) | (simp; omega) | exact Below.size (by assumption) | exact Nat.le_trans (Below.size (by assumption)) (by simp))))))) (hWh.out.below (by exact (by repeat (first | exact Below.refl _ _ | assumption | refine Below.drew ?_ | refine below_drewN ?_ _ | refine Below.alloc' ?_ _ | (refine Below.setCell ?_ (by first | omega | (simp; done) | (simp; omega) | exact Below.size (by assumption) | exact Nat.le_trans (Below.size (by assumption)) (by simp)) _) | (refine Below.via' ?_ (by assumption)) | (refine Below.alloc ?_ (by first | omega | (simp; done) | (simp; omega) | exact Below.size (by assumption) | exact Nat.le_trans (Below.size (by assumption)) (by simp)) _) | (refine Below.via ?_ (by assumption) (by first | omega | (simp; done) | (simp; omega) | exact Below.size (by assumption) | exact Nat.le_trans (Below.size (by assumption)) (by simp))))))) (hVh.out.below (by exact (by repeat (first | exact Below.refl _ _ | assumption | refine Below.drew ?_ | refine below_drewN ?_ _ | refine Below.alloc' ?_ _ | (refine Below.setCell ?_ (by first | omega | (simp; done) | (simp; omega) | exact Below.size (by assumption) | exact Nat.le_trans (Below.size (by assumption)) (by simp)) _) | (refine Below.via' ?_ (by assumption)) | (refine Below.alloc ?_ (by first | omega | (simp; done) | (simp; omega) | exact Below.size (by assumption) | exact Nat.le_trans (Below.size (by assumption)) (by simp)) _) | (refine Below.via ?_ (by assumption) (by first | omega | (simp; done) | (simp; omega) | exact Below.size (by assumption) | exact Nat.le_trans (Below.size (by assumption)) (by simp)))))))).mono ?_
  rintro e w1 ⟨rfl, hb1⟩
  cases hcm : cmB S (eM Q) W V
  · have hno := Lib.hid (pg_no1 hcm)
    clear hcm
    go_wp2
    go_ret3
    exact retILB_no hno.out (by repeat (first | exact Below.refl _ _ | assumption | refine Below.drew ?_ | refine below_drewN ?_ _ | refine Below.alloc' ?_ _ | (refine Below.setCell ?_ (by first | omega | (simp; done) | (simp; omega) | exact Below.size (by assumption) | exact Nat.le_trans (Below.size (by assumption)) (by simp)) _) | (refine Below.via' ?_ (by assumption)) | (refine Below.alloc ?_ (by first | omega | (simp; done) | (simp; omega) | exact Below.size (by assumption) | exact Nat.le_trans (Below.size (by assumption)) (by simp)) _) | (refine Below.via ?_ (by assumption) (by first | omega | (simp; done) | (simp; omega) | exact Below.size (by assumption) | exact Nat.le_trans (Below.size (by assumption)) (by simp)))))
  have hch := Lib.hid hcm
  obtain ⟨k1, k2, k3⟩ := cm_get hcm
  have hel := Lib.hid (sm_get k1).1
  have hcn := Lib.hid (sm_get k1).2
  have hsh := Lib.hid (el_get hel.out).1
  have hfv := Lib.hid k3
  have hl6 := (schB_len hsh.out).2
  obtain ⟨wl, wr⟩ := wg_get k2
  have hwr := Lib.hid (fun a (ha : a ∈ W) => by obtain ⟨j, hj, e⟩ := List.getElem_of_mem ha; exact inR_at (lo := 1) (hi := 100) wr (i := j) (v := a) (by rw [List.getElem?_eq_getElem hj, e]))
  have hw0 := Lib.hid (fun a (ha : a ∈ W) => by have := hwr.out a ha; show (0 : Int) ≤ a; omega)
  have hwl := Lib.hid wl
  clear hcm k1 k2 k3 wl wr
  go_wp2_with fail
  refine (maximalEdits_any _ _ _ _ S Q _ hel.out hcn.out (hSh.out.below (by exact hb1)) (hQh.out.below (by exact hb1))).mono ?_
  rintro e w3 ⟨u3, T, rfl, hM, ho3, hb3⟩
  obtain ⟨x3, n3, rfl, -, -⟩ := (OwR.of ho3.1).form
  have hT := Lib.hid (ho3.ein hsh.out hM hcn.out)
  have hMh := Lib.hid hM
  have B3 : Below w.heap.size w w3 := hb1.trans (hb3.mono hb1.size)
  have hs3 := B3.size
  have hfi := Lib.hid (fun E (hE : E ∈ eM T) => fine_of hsh.out (mx_ed (M := eM Q) (v := -1) hsh.out (by rw [← hMh.out]; exact hE)) hfv.out)
  clear hM hb3 ho3
  go_wp2_with fail
  refine (failedEdits_any _ _ _ _ T V _ hfi.out hT.out (hVh.out.below (by exact B3))).mono ?_
  rintro e w4 ⟨u4, rfl, ho4, hb4⟩
  obtain ⟨x4, n4, rfl, -, -⟩ := (OwR.of ho4).form
  rw [hMh.out] at ho4 ⊢
  obtain ⟨X, hX⟩ : ∃ X, mxL S (eM Q) (-1) = X := ⟨_, rfl⟩
  have hMX := hMh.out
  have hKl := feL_len (mxL S (eM Q) (-1)) V
  have hXT : X.length = T.length := by rw [← hX, ← hMX, eM_len]
  have hgd := Lib.hid (pb_gd hl6 (mxL S (eM Q) (-1)) V)
  have hxed := Lib.hid (fun E (hE : E ∈ mxL S (eM Q) (-1)) => mx_ed (M := eM Q) (v := -1) hsh.out hE)
  have hnoH := Lib.hid (pg_no2 (S := S) (M := eM Q) (W := W) (V := V))
  have hno3 := Lib.hid (fun (i : Nat) (L : List Int) h k => pg_no3 (S := S) (M := eM Q) (W := W) (V := V) (i := i) (L := L) h k)
  have hyes := Lib.hid (fun h2 h3 => pg_yes (S := S) (M := eM Q) (W := W) (V := V) hch.out h2 h3)
  have hpby := Lib.hid (pb_yes (S := S) (M := eM Q) (W := W) (V := V))
  have hpn : Hid (pbN S (eM Q) W V = bbF W (pbI S (mxL S (eM Q) (-1)) V) (feL (mxL S (eM Q) (-1)) V) (feL (mxL S (eM Q) (-1)) V).length (2 ^ (feL (mxL S (eM Q) (-1)) V).length)) := rfl
  rw [hX] at hMX hKl hgd hxed ho4 hnoH hno3 hyes hpby hpn ⊢
  have hXh := Lib.hid hX
  have hMXh := Lib.hid hMX
  have B4 : Below w.heap.size w w4 := B3.trans (hb4.mono hs3)
  have hTl := hT.out.1
  have hfl : Hid (IIn w4 x4 (feL X V)) := ⟨by omega, fun v hv => by
    obtain ⟨k, rfl, hk, _⟩ := pkUp_mem hv
    unfold IsI64
    omega, Rd.of_own ho4⟩
  have hfk := Lib.hid (fun (i : Nat) (v : Int) (hv : (feL X V)[i]? = some v) => by
    obtain ⟨k, e, hk, _⟩ := pkUp_mem (List.mem_of_getElem? hv)
    exact (⟨k, e, hk⟩ : ∃ k : Nat, v = (k : Int) ∧ k < X.length))
  have hT4 := Lib.hid (hT.out.below hb4)
  have hs4 := B4.size
  clear ho4 hb4 hX hMX hb1 hT B3
  obtain ⟨n, hn⟩ : ∃ n, (feL X V).length = n := ⟨_, rfl⟩
  have hnh := Lib.hid hn
  rw [hn] at hgd hyes hpby hpn hnoH
  have hIl := pbI_len S X V
  rw [hn] at hIl hKl ⊢
  clear hn
  by_cases h12 : n ≤ 12
  · have hnmm : n ≤ maxLen := by unfold maxLen; omega
    have hbb : j0.bytes * n ≤ 281474976710656 := by rw [hy2]; omega
    go_wp2_with (at_make; go_loud (refine wpList_make_full _ rfl _ _ 92 rfl w4.heap.size 94 j0 (.agg #[.int .i64 0, .int .i64 0]) 2 Try.underlying92 hjj hy0 hy1 .i64 .i64 _ _ n rfl rfl rfl rfl hbb hnmm (Nat.le_refl _) (fun w5 hown hgrow => ?_)))
    have hb45 : Below w4.heap.size w4 w5 := (Below.refl _ _).grown hgrow (Nat.le_refl _) (by intro k hk; cases hk)
    rw [made_bnd, ← hIl, ← beD_zero W] at hown
    have hown5 := Lib.hid hown
    clear hown hgrow hjj hy0 hy1 hy2 hbb hnmm hnoH
    go_wp2
    go_loopw [42] (fun c wr => ∃ i : Nat, i ≤ n ∧ c = .int .i64 i ∧ wr.ownsRow w4.heap.size 94 2 (.slice (some ⟨w4.heap.size, 0, none⟩) n n) n (bC (beD W (pbI S X V) i)) ∧ Hid (∀ j, j < i → ∀ L, (pbI S X V)[j]? = some L → 0 < L.length) ∧ Below w4.heap.size w4 wr) (fun c _ => n - (intOf c).toNat)
    case atStart => exact ⟨0, by omega, rfl, by rw [← hIl]; exact (by first | exact hown5.out | (rw [hIl]; exact hown5.out)), (fun j hj => absurd hj (by omega)), hb45⟩
    case round =>
      clear hown5 hb45
      obtain ⟨i, hi, rfl, hown, hall, hBr⟩ := hrel
      have hownh := Lib.hid hown
      have hszr := hBr.size
      have hBw : Below w.heap.size w wr := B4.trans (hBr.mono hs4)
      have hBrh := Lib.hid hBr
      by_cases hlt : i < n
      · obtain ⟨bl0, off0, v, hxe4, hbl0, hvi, hc5⟩ := (hfl.out.below hBr).2.2.int (i := i) (by have := hnh.out; omega)
        subst hxe4
        obtain ⟨k, rfl, hk⟩ := hfk.out i v hvi
        obtain ⟨bl, off, ⟨qa, qh, qx, qc, qL⟩, hxe, hbl, hTq, hc0⟩ := (hT4.out.below hBr).2.2.ed (i := k) (by omega)
        subst hxe
        have hqin := Lib.hid ((hT4.out.2.1 _ (List.mem_of_getElem? hTq)).below hBr)
        have hqe := eM_at hTq
        rw [hMXh.out] at hqe
        dsimp only at hc0 hqin hqe hTq
        have hed := Lib.hid (hxed.out _ (List.mem_of_getElem? hqe))
        have hpi := Lib.hid (pbI_at (S := S) hvi hqe)
        have hlt' : (i : Int) < (n : Int) := by omega
        have hi0 : (0 : Int) ≤ (i : Int) := by omega
        have hkT : (k : Int) < (T.length : Int) := by omega
        have hk0 : (0 : Int) ≤ (k : Int) := by omega
        clear hTq hqe hBr hvi hown
        obtain ⟨wo, rfl⟩ : ∃ q : World, q = wr := ⟨_, rfl⟩
        go_wp2_with fail
        refine (involvedIn_any _ _ _ _ S qL _ hsh.out hed.out (hSh.out.below (by exact hBw)) hqin.out).mono ?_
        rintro e w6 ⟨u6, rfl, ho6, hb6⟩
        obtain ⟨x6, n6, rfl, -, -⟩ := (OwR.of ho6).form
        have hiv : Hid (IIn w6 x6 (ivL S qL)) := pk_iin (by omega) (Rd.of_own ho6)
        have hBw6 : Below w.heap.size w w6 := hBw.trans (hb6.mono hBw.size)
        have hB46 : Below w4.heap.size w4 w6 := hBrh.out.trans (hb6.mono hszr)
        have hown6 := Lib.hid (own_below hownh.out hb6)
        have hil := (iv_gd hl6 qL).1
        clear ho6 hb6 hownh
        by_cases hz : (ivL S qL).length = 0
        · have hno := Lib.hid (hno3.out i _ hpi.out hz)
          have hzi : ((ivL S qL).length : Int) = 0 := by omega
          go_wp2
          go_ret3
          exact retILB_no hno.out hBw6
        · have hzi : ¬ ((ivL S qL).length : Int) = 0 := by omega
          go_wp2_with fail
          refine (boundOf_any _ _ _ _ W (ivL S qL) _ hwr.out (fun v hv => by obtain ⟨j, rfl, hj, _⟩ := pkUp_mem hv; exact ⟨j, rfl, by have := hwl.out; omega, by omega⟩) (hWh.out.below (by exact hBw6)) hiv.out).mono ?_
          rintro e w7 ⟨rfl, hb7⟩
          have hBw7 : Below w.heap.size w w7 := hBw6.trans (hb7.mono hBw6.size)
          have hB47 : Below w4.heap.size w4 w7 := hB46.trans (hb7.mono hB46.size)
          have hown7 := own_below hown6.out hb7
          have hbl := bC_len (beD W (pbI S X V) i)
          rw [beD_len (by omega), hIl] at hbl
          obtain ⟨u0, hu0, k0⟩ := own_cell hown7 (j := i * 2) (by omega)
          obtain ⟨u1, hu1, k1⟩ := own_cell hown7 (j := i * 2 + 1) (by omega)
          have f0 := hown7.frozenAt (i * 2)
          have f1 := hown7.frozenAt (i * 2 + 1)
          have hin7 := (own_lt hown7).2
          have hset := Lib.hid (beD_set (W := W) hpi.out)
          have hset2 := Lib.hid (bC_set (beD W (pbI S X V) i) i ((mkN (ivL S qL) : Int), lwZ W (ivL S qL)))
          have st0 := Lib.hid (hown7.stored (i * 2) (.int .i64 (mkN (ivL S qL) : Int)))
          have st1 := Lib.hid (st0.out.1.stored (i * 2 + 1) (.int .i64 (lwZ W (ivL S qL))))
          clear hown7 hown6 hb7 hu0 hu1 hbl
          go_wp2
          go_roundw
          case rel =>
            refine ⟨i + 1, by omega, by go_num, by rw [← hset.out, ← hset2.out]; exact st1.out.1, fun j hj L hL => ?_, (by repeat (first | exact Below.refl _ _ | assumption | refine Below.drew ?_ | refine below_drewN ?_ _ | refine Below.alloc' ?_ _ | (refine Below.setCell ?_ (by first | omega | (simp; done) | (simp; omega) | exact Below.size (by assumption) | exact Nat.le_trans (Below.size (by assumption)) (by simp)) _) | (refine Below.via' ?_ (by assumption)) | (refine Below.alloc ?_ (by first | omega | (simp; done) | (simp; omega) | exact Below.size (by assumption) | exact Nat.le_trans (Below.size (by assumption)) (by simp)) _) | (refine Below.via ?_ (by assumption) (by first | omega | (simp; done) | (simp; omega) | exact Below.size (by assumption) | exact Nat.le_trans (Below.size (by assumption)) (by simp)))))⟩
            rcases Nat.lt_or_ge j i with hj2 | hj2
            · exact hall.out j hj2 L hL
            · obtain rfl : j = i := by omega
              rw [hpi.out] at hL
              cases hL
              omega
          case measure => simp [intOf]; omega
      · have hij : i = n := by omega
        subst hij
        have hg := Lib.hid (hyes.out h12 fun j L hL => hall.out j (by have := (List.getElem?_eq_some_iff.1 hL).1; omega) L hL)
        have hrd : Hid (Rd wr (some ⟨w4.heap.size, 0, none⟩) (bC (beL W (pbI S X V)))) := by
          have h0 : Rd wr (some ⟨w4.heap.size, 0, none⟩) (bC (beD W (pbI S X V) i)) := Rd.of_own hown
          rw [← hIl, beD_all] at h0
          exact h0
        have hp2 := Lib.hid (hpby.out hg.out)
        clear hown hownh hall
        go_wp2_with fail
        refine (bestPacking_any _ _ i W (pbI S X V) (feL X V) _ hw0.out hgd.out h12 hrd.out).mono ?_
        rintro e w5 ⟨rfl, hb5⟩
        have hbb := bb_bd (K := feL X V) hw0.out hgd.out h12 (2 ^ i)
        have hpp : 2 ^ i ≤ 4096 := Nat.pow_le_pow_right (by decide) h12
        have hB45 : Below w4.heap.size w4 w5 := hBr.trans (hb5.mono hszr)
        have hBw5 : Below w.heap.size w w5 := B4.trans (hB45.mono hs4)
        have hfl5 := Lib.hid (hfl.out.below hB45)
        rw [← hpn.out] at hbb ⊢
        obtain ⟨bs, hbs⟩ : ∃ bs, (pbN S (eM Q) W V).2 = bs := ⟨_, rfl⟩
        rw [hbs] at hbb hp2 ⊢
        have hbs4 : bs ≤ 4096 := by omega
        have hpd := fun (m : Nat) => pk_bd (K := feL X V) hw0.out hgd.out _ (lvsUp (bs : Int) m) rfl
        have hpdh := Lib.hid hpd
        have hs5 := hBw5.size
        clear hbb hpp hb5 hbs hpd hrd hBr
        go_wp2
        go_loopw [19, 70] (fun u c wr => ∃ j : Nat, j ≤ i ∧ c = .int .i64 j ∧ wr.ownsRow w5.heap.size 3 1 u (pkF W (pbI S X V) (feL X V) (lvsUp (bs : Int) j)).l.length (iC (pkF W (pbI S X V) (feL X V) (lvsUp (bs : Int) j)).l) ∧ Below w5.heap.size w5 wr) (fun _ c _ => i - (intOf c).toNat)
        case atStart => exact ⟨0, by omega, rfl, World.ownsRow_nil _ _ _ _, Below.refl _ _⟩
        case round =>
          obtain ⟨j, hj, rfl, hown, hb⟩ := hrel
          have hownh := Lib.hid hown
          clear hown
          have hll := lvsUp_len (bs : Int) j
          have hs0 := hb.size
          have hl1 := (hpdh.out j).l1
          by_cases hlj : j < i
          · obtain ⟨bl0, off0, v, hxe4, hbl0, hvi, hc5⟩ := (hfl5.out.below hb).2.2.int (i := j) (by have := hnh.out; omega)
            subst hxe4
            have hbit : bits .and .i64 (bs : Int) (wrap64 (2 ^ j)) = if hsB (bs : Int) (j : Int) then 2 ^ j else 0 := by
              have h1 := and_bit (x := (bs : Int)) (by omega) (by omega) j (by omega)
              rw [(pow_i64 (n := j) (by omega)).1, show ((2 ^ j : Nat) : Int) = (2 ^ j : Int) from Int.natCast_pow 2 j]
              exact h1
            have hlj' : (j : Int) < (i : Int) := by omega
            have hj0 : (0 : Int) ≤ (j : Int) := by omega
            cases hb1 : hsB (bs : Int) (j : Int)
            · have hz : (bits .and .i64 (bs : Int) (wrap64 (2 ^ j)) == 0) = true := by rw [hbit, hb1]; rfl
              have hnx := Lib.hid (lvsUp_no (x := (bs : Int)) (n := j) hb1)
              replace hbit := Lib.hid hbit
              replace hb1 := Lib.hid hb1
              replace hvi := Lib.hid hvi
              go_wp2
              go_roundw
              case rel => exact ⟨j + 1, by omega, by go_num, by rw [hnx.out]; exact hownh.out, hb⟩
              case measure => simp [intOf]; omega
            · have hpz : (2 : Int) ^ j ≠ 0 := by have : (0 : Int) < 2 ^ j := Int.pow_pos (by decide); omega
              have hz : (bits .and .i64 (bs : Int) (wrap64 (2 ^ j)) == 0) = false := by rw [hbit, hb1, beq_eq_false_iff_ne]; exact hpz
              have hsel := Lib.hid (pk_l_yes (W := W) (Iv := pbI S X V) hb1 hvi)
              replace hbit := Lib.hid hbit
              replace hb1 := Lib.hid hb1
              replace hvi := Lib.hid hvi
              replace hpz := Lib.hid hpz
              go_wp2_with (at_builtin; go_loud (refine wpList_append_rd _ rfl (.tmp 80) (.tmp 82) 39 rfl (w5.heap.size) 3 i0 (.int .i64 0) 1 8 Try.underlying39 hii hz0 hz1 hz2 rfl (by decide) _ ((pkF W (pbI S X V) (feL X V) (lvsUp (bs : Int) j)).l).length (iC ((pkF W (pbI S X V) (feL X V) (lvsUp (bs : Int) j)).l)) rfl ((hownh.out.alloc _)) _ 1 1 rfl (Nat.le_refl _) (by intro h; cases h) (iC [(v : Int)]) rfl (rd_oneE _ _ _ _ (by simp)) (iC_one _) (by unfold maxLen; omega) (by omega) (by simp; omega) ?_); intro v3 w3 hown3 hgrow3 hwhere3)
              obtain ⟨hb3, hl3⟩ := append_below hb (fun k hk => (hownh.out.lt k hk).1) hgrow3 hwhere3
              have hown3 := Lib.hid (own_snocE hown3 hsel.out rfl)
              clear hgrow3 hwhere3
              go_wp2
              go_roundw
              case rel => exact ⟨j + 1, by omega, by go_num, hown3.out, hb3⟩
              case measure => simp [intOf]; omega
          · have hij : j = i := by omega
            subst hij
            have hBf := hBw5.trans (hb.mono hs5)
            go_wp2
            go_ret3
            exact retILB_yes hg.out hp2.out.1 (by rw [hp2.out.2]) (own_more hownh.out hs5) hBf
  · have hno := Lib.hid (hnoH.out h12)
    have hgt : (12 : Int) < (n : Int) := by omega
    go_wp2
    go_ret3
    exact retILB_no hno.out B4
end Go.Proofs.Ytmcibcechffppaa

namespace Go.Proofs.Ytmcibcechffppaa
open Go.RowKit
set_option maxRecDepth 100000

theorem ret_intP {a b : Int} (h : a = b) : Ending.returned (.int .i64 a) = .returned (.int .i64 b) := by rw [h]
theorem lesser_any (a b : Int) (w : World) : Calls Try.prog 109 #[.int .i64 a, .int .i64 b] w fun e w' => e = .returned (.int .i64 (lezZ a b)) ∧ w = w' := by
  by_cases h : a < b
  · have hv := Lib.hid (lez_yes h)
    go_enter Try.func109, Try.ntmps109
    go_wp2
    go_ret
    exact ⟨ret_intP hv.out.symm, rfl⟩
  · have hv := Lib.hid (lez_no h)
    go_enter Try.func109, Try.ntmps109
    go_wp2
    go_ret
    exact ⟨ret_intP hv.out.symm, rfl⟩
set_option maxHeartbeats 2000000 in
theorem iLeast_any (x y : Option Addr) (c1 c2 : Nat) (W L : List Int) (w : World) (hw : ∀ a ∈ W, 1 ≤ a ∧ a ≤ 100) (hp : 0 < L.length) (hL : ∀ v ∈ L, ∃ n : Nat, v = (n : Int) ∧ n < W.length) (hWi : IIn w x W) (hLi : IIn w y L) :
    Calls Try.prog 76 #[.slice x W.length c1, .slice y L.length c2] w fun e w' => e = .returned (.int .i64 (lwZ W L)) ∧ w = w' := by
  have hWh := Lib.hid hWi
  have hLh := Lib.hid hLi
  have hLlen := hLi.1
  have hwh := Lib.hid hw
  have hmh := Lib.hid hL
  obtain ⟨bl, off, v, hyv, hbl, hLi0, hc0⟩ := hLi.2.2.int hp
  obtain ⟨n, rfl, hn⟩ := hL v (List.mem_of_getElem? hLi0)
  obtain ⟨bl2, off2, a, hxv, hbl2, hWn, hc1⟩ := hWi.2.2.int hn
  subst hyv hxv
  have ha := hw a (List.mem_of_getElem? hWn)
  have hfin := Lib.hid (lw_first hLi0 hWn ha.2)
  have hp0 : (0 : Int) < (L.length : Int) := by omega
  have hn0 : (0 : Int) ≤ (n : Int) := by omega
  have hnW : (n : Int) < (W.length : Int) := by omega
  clear hWi hLi hw hL hLi0 hWn
  rw [Nat.add_zero] at hc0
  go_enter Try.func76, Try.ntmps76
  go_wp2
  go_loopw [5, 16] (fun q c wr => ∃ i : Nat, i ≤ L.length ∧ c = .int .i64 i ∧ q = .int .i64 (lwF W a (L.take i)) ∧ w = wr) (fun _ c _ => L.length - (intOf c).toNat)
  case atStart => exact ⟨0, by omega, rfl, rfl, rfl⟩
  case round =>
    obtain ⟨i, hi, rfl, rfl, rfl⟩ := hrel
    by_cases hlt : i < L.length
    · obtain ⟨bl3, off3, v3, e3, hbl3, hLi3, hc3⟩ := hLh.out.2.2.int hlt
      injection e3 with e3
      injection e3 with e3 e4
      subst e3 e4
      obtain ⟨m, rfl, hm⟩ := hmh.out v3 (List.mem_of_getElem? hLi3)
      obtain ⟨bl4, off4, a4, e5, hbl4, hWm, hc4⟩ := hWh.out.2.2.int hm
      injection e5 with e5
      injection e5 with e5 e6
      subst e5 e6
      have hst := Lib.hid (lwF_step (b := a) hLi3 hWm)
      have hlt' : (i : Int) < (L.length : Int) := by omega
      have hi0 : (0 : Int) ≤ (i : Int) := by omega
      have hm0 : (0 : Int) ≤ (m : Int) := by omega
      have hmW : (m : Int) < (W.length : Int) := by omega
      clear hLi3 hWm
      go_wp2_with fail
      refine (lesser_any _ _ _).mono ?_
      rintro e w2 ⟨rfl, rfl⟩
      go_wp2
      go_roundw
      case rel => exact ⟨i + 1, by omega, by go_num, by rw [hst.out], by first | rfl | trivial⟩
      case measure => simp [intOf]; omega
    · have hij : i = L.length := by omega
      subst hij
      have hf2 : Hid (lwF W a (L.take L.length) = lwZ W L) := by unfold Hid; rw [List.take_length]; exact hfin.out
      go_wp2
      go_ret
      exact ⟨ret_intP (by first | rfl | exact hf2.out | exact hfin.out), rfl⟩
theorem div_posW {x : Int} {i : Nat} (h0 : 0 ≤ x) (h1 : x ≤ 4095) (hi : i ≤ 12) : (0 < x / 2 ^ i → i < 12) ∧ (¬ 0 < x / 2 ^ i → x.toNat < 2 ^ i) := by
  obtain ⟨a, rfl⟩ := Int.eq_ofNat_of_zero_le h0
  have hp : 0 < 2 ^ i := Nat.two_pow_pos i
  constructor
  · intro h
    rcases Nat.lt_or_ge i 12 with h8 | h8
    · exact h8
    · obtain rfl : i = 12 := by omega
      omega
  · intro h
    rw [Int.toNat_natCast]
    rcases Nat.lt_or_ge a (2 ^ i) with h2 | h2
    · exact h2
    · exfalso
      apply h
      have h3 : 0 < a / 2 ^ i := Nat.div_pos h2 hp
      have h4 : ((a : Int) / 2 ^ i) = ((a / 2 ^ i : Nat) : Int) := by push_cast; rfl
      rw [h4]
      omega
theorem lvsUp_allW {x : Int} {i n : Nat} (h : x.toNat < 2 ^ i) (hi : i ≤ n) : lvsUp x i = lvsUp x n := by
  have := lvsUp_stop h (n - i)
  rw [show i + (n - i) = n by omega] at this
  exact this.symm
set_option maxHeartbeats 2000000 in
theorem iBitsW_any (x : Int) (w : World) (h0 : 0 ≤ x) (h1 : x ≤ 4095) :
    Calls Try.prog 75 #[.int .i64 x] w (RetL (lvsUp x 12) w) := by
  obtain ⟨i0, hii, hz0, hz1, hz2⟩ := info_parts Try.infoInt
  go_enter Try.func75, Try.ntmps75
  go_wp2
  go_loopw [3, 4] (fun u q wr => ∃ i : Nat, i ≤ 12 ∧ q = .int .i64 i ∧ wr.ownsRow w.heap.size 3 1 u (lvsUp x i).length (iC (lvsUp x i)) ∧ Below w.heap.size w wr) (fun _ q _ => 12 - (intOf q).toNat)
  case atStart => exact ⟨0, by omega, by go_num, World.ownsRow_nil _ _ _ _, (by repeat (first | exact Below.refl _ _ | assumption | refine Below.drew ?_ | refine below_drewN ?_ _ | refine Below.alloc' ?_ _ | (refine Below.setCell ?_ (by first | omega | (simp; done) | (simp; omega) | exact Below.size (by assumption) | exact Nat.le_trans (Below.size (by assumption)) (by simp)) _) | (refine Below.via' ?_ (by assumption)) | (refine Below.alloc ?_ (by first | omega | (simp; done) | (simp; omega) | exact Below.size (by assumption) | exact Nat.le_trans (Below.size (by assumption)) (by simp)) _) | (refine Below.via ?_ (by assumption) (by first | omega | (simp; done) | (simp; omega) | exact Below.size (by assumption) | exact Nat.le_trans (Below.size (by assumption)) (by simp)))))⟩
  case round =>
    obtain ⟨i, hi, rfl, hown, hb⟩ := hrel
    have hownh := Lib.hid hown
    clear hown
    have hsl := lvsUp_len x i
    have hwu := wrapU i (by omega)
    obtain ⟨d1, d2⟩ := div_posW h0 h1 hi
    by_cases hlt : 0 < x / 2 ^ i
    · have hi8 := d1 hlt
      clear d1 d2
      have hsv := shr_one h0 (by omega) i
      cases hh : hsB x i
      · have hsel := Lib.hid (lvsUp_no hh)
        rw [hh] at hsv
        have hz : (bits .and .i64 (x / 2 ^ i) 1 == 1) = false := by rw [hsv]; rfl
        replace hsv := Lib.hid hsv
        go_wp2
        go_roundw
        case rel => exact ⟨i + 1, by omega, by go_num, by rw [hsel.out]; exact hownh.out, hb⟩
        case measure => simp [intOf]; omega
      · have hsel := Lib.hid (lvsUp_yes hh)
        rw [hh] at hsv
        have hz : (bits .and .i64 (x / 2 ^ i) 1 == 1) = true := by rw [hsv]; rfl
        replace hsv := Lib.hid hsv
        have hs0 := hb.size
        go_wp2_with (at_builtin; go_loud (refine wpList_append_rd _ rfl (.tmp 18) (.tmp 20) 39 rfl (w.heap.size) 3 i0 (.int .i64 0) 1 8 Try.underlying39 hii hz0 hz1 hz2 rfl (by decide) _ (lvsUp x i).length (iC (lvsUp x i)) rfl ((hownh.out.alloc _)) _ 1 1 rfl (Nat.le_refl _) (by intro h; cases h) (iC [((i : Int) : Int)]) rfl (rd_oneE _ _ _ _ (by simp)) (iC_one _) (by unfold maxLen; omega) (by omega) (by simp; omega) ?_); intro v3 w3 hown3 hgrow3 hwhere3)
        obtain ⟨hb3, hl3⟩ := append_below hb (fun k hk => (hownh.out.lt k hk).1) hgrow3 hwhere3
        have hown3 := Lib.hid (own_snocE hown3 hsel.out rfl)
        clear hgrow3 hwhere3
        go_wp2
        go_roundw
        case rel => exact ⟨i + 1, by omega, by go_num, hown3.out, hb3⟩
        case measure => simp [intOf]; omega
    · have he := Lib.hid (lvsUp_allW (d2 hlt) hi)
      clear d1 d2
      go_wp2
      go_ret
      exact ⟨_, rfl, by rw [← he.out]; exact hownh.out, hb⟩
/-- Two rows lie apart. -/
def Dj (a b : Value) : Prop := ∀ k, a.ownBlock = some k → b.ownBlock ≠ some k
theorem Dj.symm {a b : Value} (h : Dj a b) : Dj b a := fun k hk e => h k e hk
theorem Dj.kept {a b : Value} (h : Dj a b) : b.ownBlock = none ∨ b.ownBlock ≠ a.ownBlock := by
  cases e : b.ownBlock with
  | none => exact .inl rfl
  | some k => exact .inr fun e2 => h k e2.symm e
theorem Dj.grow {a a' b : Value} {n : Nat} (h : Dj a b) (hw : a'.ownBlock = a.ownBlock ∨ a'.ownBlock = some n) (hb : ∀ k, b.ownBlock = some k → k < n) : Dj a' b := fun k hk e => by
  rcases hw with h1 | h1
  · exact h k (h1 ▸ hk) e
  · have e1 : n = k := Option.some.inj (h1.symm.trans hk)
    have := hb k e
    omega
/-- The rows of the failed edits' numbers and of their variables. -/
def PbR (w : World) (b0 : Nat) (u : Value) (F : List Int) (v : Value) (R : List PR) : Prop :=
  w.ownsRow b0 3 1 u F.length (iC F) ∧ w.ownsRow b0 39 1 v R.length (eC R) ∧ ∀ q ∈ R, w.ownsRow b0 3 1 q.v q.L.length (iC q.L) ∧ Dj u q.v
theorem PbR.below {w w' : World} {b0 : Nat} {u v : Value} {F : List Int} {R : List PR} (h : PbR w b0 u F v R) (hb : Below w.heap.size w w') : PbR w' b0 u F v R := ⟨own_below h.1 hb, own_below h.2.1 hb, fun q hq => ⟨own_below (h.2.2 q hq).1 hb, (h.2.2 q hq).2⟩⟩
theorem pbr_one {w w' : World} {b0 b1 : Nat} {u u' v : Value} {F F' : List Int} {R : List PR} {q : PR} {o : Obj} (h : PbR w b0 u F v R) (hq : w.ownsRow b1 3 1 q.v q.L.length (iC q.L)) (hd : Dj u q.v) (hg : (w.alloc o).grownBy w' u.ownBlock) (hrow : w'.ownsRow b0 3 1 u' F'.length (iC F')) (hw : u'.ownBlock = u.ownBlock ∨ u'.ownBlock = some (w.alloc o).heap.size) :
    PbR w' b0 u' F' v R ∧ w'.ownsRow b1 3 1 q.v q.L.length (iC q.L) ∧ Dj u' q.v := by
  have key : ∀ {b : Nat} {p : PR}, w.ownsRow b 3 1 p.v p.L.length (iC p.L) → Dj u p.v → w'.ownsRow b 3 1 p.v p.L.length (iC p.L) ∧ Dj u' p.v := by
    intro b p hp hdp
    exact ⟨(hp.alloc o).kept hg hdp.kept, hdp.grow hw fun k hk => by have := (hp.lt k hk).2; simp; omega⟩
  exact ⟨⟨hrow, (h.2.1.alloc o).kept hg (rows_apart h.2.1 h.1 (by decide)), fun p hp => key (h.2.2 p hp).1 (h.2.2 p hp).2⟩, key hq hd⟩
theorem pbr_two {w w' : World} {b0 b1 : Nat} {u v v' : Value} {F : List Int} {R : List PR} {q : PR} {o : Obj} (h : PbR w b0 u F v R) (hq : w.ownsRow b1 3 1 q.v q.L.length (iC q.L)) (hb : b0 ≤ b1) (hd : Dj u q.v) (hg : (w.alloc o).grownBy w' v.ownBlock) (hrow : w'.ownsRow b0 39 1 v' (R.length + 1) (eC R ++ eC [q])) :
    PbR w' b0 u F v' (R ++ [q]) := by
  refine ⟨(h.1.alloc o).kept hg (rows_apart h.1 h.2.1 (by decide)), own_eq hrow (by simp) (by unfold eC; rw [List.map_append]), fun p hp => ?_⟩
  rcases List.mem_append.1 hp with h1 | h1
  · exact ⟨((h.2.2 p h1).1.alloc o).kept hg (rows_apart (h.2.2 p h1).1 h.2.1 (by decide)), (h.2.2 p h1).2⟩
  · obtain rfl := List.mem_singleton.1 h1
    exact ⟨own_more ((hq.alloc o).kept hg (rows_apart hq h.2.1 (by decide))) hb, hd⟩
/-- Three rows of numbers that lie apart. -/
def Tri (w : World) (b : Nat) (uu : Value) (U : List Int) (ul : Value) (L : List Int) (uo : Value) (O : List Int) : Prop :=
  w.ownsRow b 3 1 uu U.length (iC U) ∧ w.ownsRow b 3 1 ul L.length (iC L) ∧ w.ownsRow b 3 1 uo O.length (iC O) ∧ Dj uu ul ∧ Dj uu uo ∧ Dj ul uo
theorem Tri.below {w w' : World} {b : Nat} {uu ul uo : Value} {U L O : List Int} (h : Tri w b uu U ul L uo O) (hb : Below w.heap.size w w') : Tri w' b uu U ul L uo O := ⟨own_below h.1 hb, own_below h.2.1 hb, own_below h.2.2.1 hb, h.2.2.2⟩
theorem tri_u {w w' : World} {b : Nat} {uu uu' ul uo : Value} {U U' L O : List Int} (h : Tri w b uu U ul L uo O) (hg : w.grownBy w' uu.ownBlock) (hrow : w'.ownsRow b 3 1 uu' U'.length (iC U')) (hw : uu'.ownBlock = uu.ownBlock ∨ uu'.ownBlock = some w.heap.size) : Tri w' b uu' U' ul L uo O :=
  ⟨hrow, h.2.1.kept hg h.2.2.2.1.kept, h.2.2.1.kept hg h.2.2.2.2.1.kept, h.2.2.2.1.grow hw fun k hk => (h.2.1.lt k hk).2, h.2.2.2.2.1.grow hw fun k hk => (h.2.2.1.lt k hk).2, h.2.2.2.2.2⟩
theorem tri_l {w w' : World} {b : Nat} {uu ul ul' uo : Value} {U L L' O : List Int} {o : Obj} (h : Tri w b uu U ul L uo O) (hg : (w.alloc o).grownBy w' ul.ownBlock) (hrow : w'.ownsRow b 3 1 ul' L'.length (iC L')) (hw : ul'.ownBlock = ul.ownBlock ∨ ul'.ownBlock = some (w.alloc o).heap.size) : Tri w' b uu U ul' L' uo O :=
  ⟨(h.1.alloc o).kept hg h.2.2.2.1.symm.kept, hrow, (h.2.2.1.alloc o).kept hg h.2.2.2.2.2.kept, (h.2.2.2.1.symm.grow hw fun k hk => by have := (h.1.lt k hk).2; simp; omega).symm, h.2.2.2.2.1, h.2.2.2.2.2.grow hw fun k hk => by have := (h.2.2.1.lt k hk).2; simp; omega⟩
theorem dj_nil (b : Value) : Dj (.slice none 0 0) b := fun k hk => by cases hk
theorem tri_start {w : World} {b : Nat} {uo : Value} {O : List Int} (h : w.ownsRow b 3 1 uo O.length (iC O)) : Tri w b (.slice none 0 0) [] (.slice none 0 0) [] uo O := by
  unfold Tri
  exact ⟨World.ownsRow_nil _ _ _ _, World.ownsRow_nil _ _ _ _, h, dj_nil _, dj_nil _, dj_nil _⟩
end Go.Proofs.Ytmcibcechffppaa

namespace Go.Proofs.Ytmcibcechffppaa
open Go.RowKit
set_option maxRecDepth 100000

def pbU (S : List (ByteArray × Int)) (X : List (List Int)) (V : List Int) (i : Nat) : List (List Int) := (feUp X V i).map fun k => ivL S (X[k.toNat]?.getD [])
theorem pbU_all (S : List (ByteArray × Int)) (X : List (List Int)) (V : List Int) : pbU S X V X.length = pbI S X V := rfl
theorem pbU_no {S : List (ByteArray × Int)} {X : List (List Int)} {V E : List Int} {i : Nat} (h : X[i]? = some E) (hf : fsB E V = false) : feUp X V (i + 1) = feUp X V i ∧ pbU S X V (i + 1) = pbU S X V i := by
  have h1 : feUp X V (i + 1) = feUp X V i := pkUp_no (by rw [fe_at h]; exact hf)
  exact ⟨h1, by unfold pbU; rw [h1]⟩
theorem pbU_yes {S : List (ByteArray × Int)} {X : List (List Int)} {V E : List Int} {i : Nat} (h : X[i]? = some E) (hf : fsB E V = true) : feUp X V (i + 1) = feUp X V i ++ [(i : Int)] ∧ pbU S X V (i + 1) = pbU S X V i ++ [ivL S E] := by
  have h1 : feUp X V (i + 1) = feUp X V i ++ [(i : Int)] := pkUp_yes (by rw [fe_at h]; exact hf)
  refine ⟨h1, ?_⟩
  unfold pbU
  rw [h1, List.map_append, List.map_cons, List.map_nil, Int.toNat_natCast, h]
  rfl
theorem pb_empty {S : List (ByteArray × Int)} {M X : List (List Int)} {W V E : List Int} {i : Nat} (hX : mxL S M (-1) = X) (h : X[i]? = some E) (hf : fsB E V = true) (hz : (ivL S E).length = 0) : pbG S M W V = false := by
  have hi := (List.getElem?_eq_some_iff.1 h).1
  have hm : (i : Int) ∈ feL X V := by
    unfold feL feUp pkUp
    exact List.mem_map.2 ⟨i, List.mem_filter.2 ⟨List.mem_range.2 hi, by rw [fe_at h]; exact hf⟩, rfl⟩
  have hm2 : ivL S E ∈ pbI S X V := by
    unfold pbI
    exact List.mem_map.2 ⟨(i : Int), hm, by rw [Int.toNat_natCast, h]; rfl⟩
  obtain ⟨j, hj, e⟩ := List.getElem_of_mem hm2
  exact pg_no3 (i := j) (L := ivL S E) (by rw [hX, List.getElem?_eq_getElem hj, e]) hz
theorem lvs_below {x : Int} {n : Nat} {v : Int} (h : v ∈ lvsUp x n) : ∃ k : Nat, v = (k : Int) ∧ k < n := by
  unfold lvsUp at h
  obtain ⟨l, hl, rfl⟩ := List.mem_map.1 h
  exact ⟨l, rfl, List.mem_range.1 (List.mem_filter.1 hl).1⟩
theorem lvs_null (n : Nat) : lvsUp 0 n = [] := by
  have h := lvsUp_allW (x := 0) (i := 0) (n := n) (by decide) (Nat.zero_le _)
  rw [← h]
  rfl
theorem pk_next {W : List Int} {Iv : List (List Int)} {K : List Int} {ks : List Int} {t k : Nat} {L : List Int} {f : Int} (ht : ks[t]? = some (k : Int)) (hL : Iv[k]? = some L) (hf : K[k]? = some f) :
    pkF W Iv K (ks.take (t + 1)) = ⟨(pkF W Iv K (ks.take t)).a && !shB L (pkF W Iv K (ks.take t)).u, (pkF W Iv K (ks.take t)).u ++ L, (pkF W Iv K (ks.take t)).s + lwZ W L, (pkF W Iv K (ks.take t)).l ++ [f]⟩ := by
  rw [take_snoc ht, pk_snoc]
  unfold pkStep ivk
  rw [Int.toNat_natCast, hL, hf]
  rfl
def pkT (W : List Int) (Iv : List (List Int)) (K ks : List Int) (t : Nat) : PkS := pkF W Iv K (ks.take t)
theorem pkT_zero (W : List Int) (Iv : List (List Int)) (K ks : List Int) : pkT W Iv K ks 0 = ⟨true, [], 0, []⟩ := rfl
theorem bb_zero (W : List Int) (Iv : List (List Int)) (K : List Int) (n : Nat) : (bbF W Iv K n 0).1 = 0 := rfl
theorem pkT_all (W : List Int) (Iv : List (List Int)) (K ks : List Int) : pkT W Iv K ks ks.length = pkF W Iv K ks := by unfold pkT; rw [List.take_length]
theorem pkT_next {W : List Int} {Iv : List (List Int)} {K : List Int} {ks : List Int} {t k : Nat} {L : List Int} {f : Int} (ht : ks[t]? = some (k : Int)) (hL : Iv[k]? = some L) (hf : K[k]? = some f) :
    (pkT W Iv K ks (t + 1)).a = ((pkT W Iv K ks t).a && !shB L (pkT W Iv K ks t).u) ∧ (pkT W Iv K ks (t + 1)).u = (pkT W Iv K ks t).u ++ L ∧ (pkT W Iv K ks (t + 1)).s = (pkT W Iv K ks t).s + lwZ W L ∧ (pkT W Iv K ks (t + 1)).l = (pkT W Iv K ks t).l ++ [f] := by
  unfold pkT
  rw [pk_next ht hL hf]
  exact ⟨rfl, rfl, rfl, rfl⟩
/-- What is chosen by the best packing so far. -/
def otK (W : List Int) (Iv : List (List Int)) (K : List Int) (n st : Nat) : List Int := (pkF W Iv K (lvsUp ((bbF W Iv K n st).2 : Int) n)).l
theorem ot_yes {W : List Int} {Iv : List (List Int)} {K : List Int} {n st : Nat} (h : (pkF W Iv K (lvsUp (st : Int) n)).a = true) (k : (bbF W Iv K n st).1 < (pkF W Iv K (lvsUp (st : Int) n)).s) : otK W Iv K n (st + 1) = (pkF W Iv K (lvsUp (st : Int) n)).l := by unfold otK; rw [bb_yes h k]
theorem ot_no1 {W : List Int} {Iv : List (List Int)} {K : List Int} {n st : Nat} (h : (pkF W Iv K (lvsUp (st : Int) n)).a = false) : otK W Iv K n (st + 1) = otK W Iv K n st := by unfold otK; rw [bb_no1 h]
theorem ot_no2 {W : List Int} {Iv : List (List Int)} {K : List Int} {n st : Nat} (h : ¬ (bbF W Iv K n st).1 < (pkF W Iv K (lvsUp (st : Int) n)).s) : otK W Iv K n (st + 1) = otK W Iv K n st := by unfold otK; rw [bb_no2 h]
theorem ot_zero (W : List Int) (Iv : List (List Int)) (K : List Int) (n : Nat) : otK W Iv K n 0 = [] := by
  unfold otK
  show (pkF W Iv K (lvsUp ((0 : Nat) : Int) n)).l = []
  rw [show ((0 : Nat) : Int) = 0 from rfl, lvs_null]
  rfl
theorem pb_mem {S : List (ByteArray × Int)} {X : List (List Int)} {V L : List Int} (h : L ∈ pbI S X V) : ∀ v ∈ L, ∃ k : Nat, v = (k : Int) ∧ k < S.length := by
  unfold pbI at h
  obtain ⟨j, _, rfl⟩ := List.mem_map.1 h
  intro v hv
  obtain ⟨k, e, hk, _⟩ := pkUp_mem hv
  exact ⟨k, e, hk⟩
set_option maxHeartbeats 16000000 in
theorem sPB_x (x y z u : Option Addr) (c1 c2 c3 c4 : Nat) (S : List (ByteArray × Int)) (Q : List PR) (W V : List Int) (w : World) (hS : SIn w x c1 S) (hQ : EIn w y Q) (hW : IIn w z W) (hV : IIn w u V) :
    Calls Try.prog 34 #[.slice x S.length c1, .slice y Q.length c2, .slice z W.length c3, .slice u V.length c4] w (RetILB (pbZ S (eM Q) W V) (pbL S (eM Q) W V) (pbG S (eM Q) W V) w) := by
  obtain ⟨r0, hri, hrz0, hrz1, hrz2⟩ := info_parts Try.infoRow
  obtain ⟨i0, hii, hz0, hz1, hz2⟩ := info_parts Try.infoInt
  have hSh := Lib.hid hS
  have hQh := Lib.hid hQ
  have hWh := Lib.hid hW
  have hVh := Lib.hid hV
  clear hS hQ hW hV
  go_enter Try.func34, Try.ntmps34
  go_wp2_with fail
  refine (iInput_any _ _ _ _ _ _ _ _ S Q W V _ (hSh.out.below (by exact (by repeat (first | exact Below.refl _ _ | assumption | refine Below.drew ?_ | refine below_drewN ?_ _ | refine Below.alloc' ?_ _ | (refine Below.setCell ?_ (by first | omega | (simp; done) | (simp; omega) | exact Below.size (by assumption) | exact Nat.le_trans (Below.size (by assumption)) (by simp)) _) | (refine Below.via' ?_ (by assumption)) | (refine Below.alloc ?_ (by first | omega | (simp; done) | (simp; omega) | exact Below.size (by assumption) | exact Nat.le_trans (Below.size (by assumption)) (by simp)) _) | (refine Below.via ?_ (by assumption) (by first | omega | (simp; done) | (simp; omega) | exact Below.size (by assumption) | exact Nat.le_trans (Below.size (by assumption)) (by simp))))))) (hQh.out.below (by exact (by repeat (first | exact Below.refl _ _ | assumption | refine Below.drew ?_ | refine below_drewN ?_ _ | refine Below.alloc' ?_ _ | (refine Below.setCell ?_ (by first | omega | (simp; done) | (simp; omega) | exact Below.size (by assumption) | exact Nat.le_trans (Below.size (by assumption)) (by simp)) _) | (refine Below.via' ?_ (by assumption)) | (refine Below.alloc ?_ (by first | omega | (simp; done) | (simp; omega) | exact Below.size (by assumption) | exact Nat.le_trans (Below.size (by assumption)) (by simp)) _) | (refine Below.via ?_ (by assumption) (by first | omega | (simp; done) | (simp; omega) | exact Below.size (by assumption) | exact Nat.le_trans (Below.size (by assumption)) (by simp))))))) (hWh.out.below (by exact (by repeat (first | exact Below.refl _ _ | assumption | refine Below.drew ?_ | refine below_drewN ?_ _ | refine Below.alloc' ?_ _ | (refine Below.setCell ?_ (by first | omega | (simp; done) | (simp; omega) | exact Below.size (by assumption) | exact Nat.le_trans (Below.size (by assumption)) (by simp)) _) | (refine Below.via' ?_ (by assumption)) | (refine Below.alloc ?_ (by first | omega | (simp; done) | (simp; omega) | exact Below.size (by assumption) | exact Nat.le_trans (Below.size (by assumption)) (by simp)) _) | (refine Below.via ?_ (by assumption) (by first | omega | (simp; done) | (simp; omega) | exact Below.size (by assumption) | exact Nat.le_trans (Below.size (by assumption)) (by simp))))))) (hVh.out.below (by exact (by repeat (first | exact Below.refl _ _ | assumption | refine Below.drew ?_ | refine below_drewN ?_ _ | refine Below.alloc' ?_ _ | (refine Below.setCell ?_ (by first | omega | (simp; done) | (simp; omega) | exact Below.size (by assumption) | exact Nat.le_trans (Below.size (by assumption)) (by simp)) _) | (refine Below.via' ?_ (by assumption)) | (refine Below.alloc ?_ (by first | omega | (simp; done) | (simp; omega) | exact Below.size (by assumption) | exact Nat.le_trans (Below.size (by assumption)) (by simp)) _) | (refine Below.via ?_ (by assumption) (by first | omega | (simp; done) | (simp; omega) | exact Below.size (by assumption) | exact Nat.le_trans (Below.size (by assumption)) (by simp)))))))).mono ?_
  rintro e w1 ⟨rfl, hb1⟩
  cases hcm : cmB S (eM Q) W V
  · have hno := Lib.hid (pg_no1 hcm)
    clear hcm
    go_wp2
    go_ret3
    exact retILB_no hno.out (by repeat (first | exact Below.refl _ _ | assumption | refine Below.drew ?_ | refine below_drewN ?_ _ | refine Below.alloc' ?_ _ | (refine Below.setCell ?_ (by first | omega | (simp; done) | (simp; omega) | exact Below.size (by assumption) | exact Nat.le_trans (Below.size (by assumption)) (by simp)) _) | (refine Below.via' ?_ (by assumption)) | (refine Below.alloc ?_ (by first | omega | (simp; done) | (simp; omega) | exact Below.size (by assumption) | exact Nat.le_trans (Below.size (by assumption)) (by simp)) _) | (refine Below.via ?_ (by assumption) (by first | omega | (simp; done) | (simp; omega) | exact Below.size (by assumption) | exact Nat.le_trans (Below.size (by assumption)) (by simp)))))
  have hch := Lib.hid hcm
  obtain ⟨k1, k2, k3⟩ := cm_get hcm
  have hsm := Lib.hid k1
  have hcn := Lib.hid (sm_get k1).2
  have hsh := Lib.hid (el_get (sm_get k1).1).1
  have hfv := Lib.hid k3
  have hl6 := (schB_len hsh.out).2
  obtain ⟨wl, wr⟩ := wg_get k2
  have hwr := Lib.hid (fun a (ha : a ∈ W) => by obtain ⟨j, hj, e⟩ := List.getElem_of_mem ha; exact inR_at (lo := 1) (hi := 100) wr (i := j) (v := a) (by rw [List.getElem?_eq_getElem hj, e]))
  have hw0 := Lib.hid (fun a (ha : a ∈ W) => by have := hwr.out a ha; show (0 : Int) ≤ a; omega)
  have hwl := Lib.hid wl
  clear hcm k1 k2 k3 wl wr
  go_wp2_with fail
  refine (eMaximal_any _ _ _ _ S Q _ _ hsm.out (hSh.out.below (by exact hb1)) (hQh.out.below (by exact hb1))).mono ?_
  rintro e wM ⟨u3, T, rfl, hM, ho3, hb3⟩
  obtain ⟨x3, n3, rfl, -, -⟩ := (OwR.of ho3.1).form
  have hT := Lib.hid (ho3.ein hsh.out hM hcn.out)
  have BM : Below w.heap.size w wM := hb1.trans (hb3.mono hb1.size)
  have hsM := BM.size
  have hTl := hT.out.1
  obtain ⟨X, hX⟩ : ∃ X, mxL S (eM Q) (-1) = X := ⟨_, rfl⟩
  have hXT : X.length = T.length := by rw [← hX, ← hM, eM_len]
  have hMX := hM
  have hgd := Lib.hid (pb_gd hl6 (mxL S (eM Q) (-1)) V)
  have hxed := Lib.hid (fun E (hE : E ∈ mxL S (eM Q) (-1)) => mx_ed (M := eM Q) (v := -1) hsh.out hE)
  have hnoH := Lib.hid (pg_no2 (S := S) (M := eM Q) (W := W) (V := V))
  have hyes := Lib.hid (fun h2 h3 => pg_yes (S := S) (M := eM Q) (W := W) (V := V) hch.out h2 h3)
  have hpby := Lib.hid (pb_yes (S := S) (M := eM Q) (W := W) (V := V))
  have hpn : Hid (pbN S (eM Q) W V = bbF W (pbI S (mxL S (eM Q) (-1)) V) (feL (mxL S (eM Q) (-1)) V) (feL (mxL S (eM Q) (-1)) V).length (2 ^ (feL (mxL S (eM Q) (-1)) V).length)) := rfl
  rw [hX] at hMX hgd hxed hnoH hyes hpby hpn
  have hXh := Lib.hid hX
  have hMXh := Lib.hid hMX
  clear hb3 ho3 hX hMX hM hb1
  go_wp2
  go_loopw [11, 12, 35] (fun uf ui c wr => ∃ (i : Nat) (R : List PR), i ≤ T.length ∧ c = .int .i64 i ∧ Hid (PbR wr wM.heap.size uf (feUp X V i) ui R) ∧ Hid (eM R = pbU S X V i) ∧ Hid (∀ L ∈ pbU S X V i, 0 < L.length) ∧ Below wM.heap.size wM wr) (fun _ _ c _ => T.length - (intOf c).toNat)
  case atStart => exact ⟨0, [], by omega, rfl, ⟨World.ownsRow_nil _ _ _ _, World.ownsRow_nil _ _ _ _, fun q hq => by cases hq⟩, rfl, (fun L hL => by cases hL), Below.refl _ _⟩
  case round =>
    obtain ⟨i, R, hi, rfl, hP, hR, hall, hBr⟩ := hrel
    have hszr := hBr.size
    have hBw : Below w.heap.size w wr := BM.trans (hBr.mono hsM)
    have hRl : R.length = (feUp X V i).length := by have h0 := congrArg List.length hR.out; rw [eM_len] at h0; rw [h0]; unfold pbU; rw [List.length_map]
    have hfl := feUp_len X V i
    by_cases hlt : i < T.length
    · obtain ⟨bl, off, ⟨qa, qh, qx, qc, qL⟩, hxe, hbl, hTq, hc0⟩ := (hT.out.below hBr).2.2.ed hlt
      subst hxe
      have hqin := Lib.hid ((hT.out.2.1 _ (List.mem_of_getElem? hTq)).below hBr)
      have hqe := eM_at hTq
      rw [hMXh.out] at hqe
      dsimp only at hc0 hqin hqe hTq
      have hqh := Lib.hid hqe
      have hed := Lib.hid (hxed.out _ (List.mem_of_getElem? hqe))
      have hfi := Lib.hid (fine_of hsh.out hed.out hfv.out)
      have hlt' : (i : Int) < (T.length : Int) := by omega
      have hBrh := Lib.hid hBr
      clear hTq hqe hBr
      obtain ⟨wo, rfl⟩ : ∃ q : World, q = wr := ⟨_, rfl⟩
      go_wp2_with fail
      refine (eFails_any _ _ _ _ qL V _ hfi.out (hqin.out.below (by exact (by repeat (first | exact Below.refl _ _ | assumption | refine Below.drew ?_ | refine below_drewN ?_ _ | refine Below.alloc' ?_ _ | (refine Below.setCell ?_ (by first | omega | (simp; done) | (simp; omega) | exact Below.size (by assumption) | exact Nat.le_trans (Below.size (by assumption)) (by simp)) _) | (refine Below.via' ?_ (by assumption)) | (refine Below.alloc ?_ (by first | omega | (simp; done) | (simp; omega) | exact Below.size (by assumption) | exact Nat.le_trans (Below.size (by assumption)) (by simp)) _) | (refine Below.via ?_ (by assumption) (by first | omega | (simp; done) | (simp; omega) | exact Below.size (by assumption) | exact Nat.le_trans (Below.size (by assumption)) (by simp))))))) (hVh.out.below (by exact (by repeat (first | exact Below.refl _ _ | assumption | refine Below.drew ?_ | refine below_drewN ?_ _ | refine Below.alloc' ?_ _ | (refine Below.setCell ?_ (by first | omega | (simp; done) | (simp; omega) | exact Below.size (by assumption) | exact Nat.le_trans (Below.size (by assumption)) (by simp)) _) | (refine Below.via' ?_ (by assumption)) | (refine Below.alloc ?_ (by first | omega | (simp; done) | (simp; omega) | exact Below.size (by assumption) | exact Nat.le_trans (Below.size (by assumption)) (by simp)) _) | (refine Below.via ?_ (by assumption) (by first | omega | (simp; done) | (simp; omega) | exact Below.size (by assumption) | exact Nat.le_trans (Below.size (by assumption)) (by simp)))))))).mono ?_
      rintro e w4 ⟨rfl, hb4⟩
      have hB4 : Below wo.heap.size wo w4 := (by repeat (first | exact Below.refl _ _ | assumption | refine Below.drew ?_ | refine below_drewN ?_ _ | refine Below.alloc' ?_ _ | (refine Below.setCell ?_ (by first | omega | (simp; done) | (simp; omega) | exact Below.size (by assumption) | exact Nat.le_trans (Below.size (by assumption)) (by simp)) _) | (refine Below.via' ?_ (by assumption)) | (refine Below.alloc ?_ (by first | omega | (simp; done) | (simp; omega) | exact Below.size (by assumption) | exact Nat.le_trans (Below.size (by assumption)) (by simp)) _) | (refine Below.via ?_ (by assumption) (by first | omega | (simp; done) | (simp; omega) | exact Below.size (by assumption) | exact Nat.le_trans (Below.size (by assumption)) (by simp)))))
      have hBw4 : Below w.heap.size w w4 := hBw.trans (hB4.mono hBw.size)
      have hBM4 : Below wM.heap.size wM w4 := hBrh.out.trans (hB4.mono hszr)
      have hP4 := Lib.hid (hP.out.below hB4)
      cases hh : fsB qL V
      · have hst := Lib.hid (pbU_no (S := S) hqh.out hh)
        clear hh hb4
        go_wp2
        go_roundw
        case rel => exact ⟨i + 1, R, by omega, by go_num, by rw [hst.out.1]; exact hP4, by rw [hst.out.2]; exact hR, by rw [hst.out.2]; exact hall, hBM4⟩
        case measure => simp [intOf]; omega
      · have hst := Lib.hid (pbU_yes (S := S) hqh.out hh)
        have hemp := Lib.hid (fun hz => pb_empty (W := W) hXh.out hqh.out hh hz)
        have z1 := (hb4.cell (p := ⟨wo.heap.size, 0, none⟩) (by simp)).trans (Boxed.new wo 62 (.slice qx qL.length qc)).cell
        clear hh hb4
        go_wp2_with fail
        refine (eInvolved_any _ _ _ _ S qL _ hsh.out hed.out (hSh.out.below (by exact hBw4)) (hqin.out.below (by exact hB4))).mono ?_
        rintro e w5 ⟨u5, rfl, ho5, hb5⟩
        obtain ⟨x5, n5, rfl, -, -⟩ := (OwR.of ho5).form
        have hBw5 : Below w.heap.size w w5 := hBw4.trans (hb5.mono hBw4.size)
        have hBM5 : Below wM.heap.size wM w5 := hBM4.trans (hb5.mono hBM4.size)
        have hP5 := Lib.hid (hP4.out.below hb5)
        have hq5 := Lib.hid (show w5.ownsRow w4.heap.size 3 1 (PR.v ⟨0, 0, x5, n5, ivL S qL⟩) (ivL S qL).length (iC (ivL S qL)) from ho5)
        have hd5 := Lib.hid (show Dj _ (PR.v ⟨0, 0, x5, n5, ivL S qL⟩) from fun k hk e => by
          have h1 := (hP4.out.1.lt k hk).2
          have h2 := (ho5.lt k e).1
          omega)
        have hs4 := hBM4.size
        have hs5 := hBM5.size
        clear ho5 hb5 z1
        by_cases hz : (ivL S qL).length = 0
        · have hno := Lib.hid (hemp.out hz)
          have hzi : ((ivL S qL).length : Int) = 0 := by omega
          go_wp2
          go_ret3
          exact retILB_no hno.out hBw5
        · have hzi : ¬ ((ivL S qL).length : Int) = 0 := by omega
          go_wp2_with (first
            | (at_builtin; (refine wpList_append_rd _ rfl (.tmp 50) (.tmp 52) 39 rfl wM.heap.size 3 i0 (.int .i64 0) 1 8 Try.underlying39 hii hz0 hz1 hz2 rfl (by decide) _ (feUp X V i).length (iC (feUp X V i)) rfl (hP5.out.1.alloc _) _ 1 1 rfl (Nat.le_refl _) (by intro h; cases h) (iC [(i : Int)]) rfl (rd_oneE _ _ _ _ (by simp)) (iC_one _) (by unfold maxLen; omega) (by omega) (by simp; omega) ?_); intro v6 w6 hown6 hgrow6 hwhere6; (obtain ⟨hb6, hl6'⟩ := append_below hBM5 (fun k hk => (hP5.out.1.lt k hk).1) hgrow6 hwhere6); (obtain ⟨hP6, hq6, hd6⟩ := pbr_one (F' := feUp X V (i + 1)) hP5.out hq5.out hd5.out hgrow6 (own_snocE hown6 hst.out.1 rfl) hwhere6); (replace hP6 := Lib.hid hP6); (replace hq6 := Lib.hid hq6); (replace hd6 := Lib.hid hd6); (replace hb6 := Lib.hid hb6); (have hs6 := hb6.out.size); clear hgrow6 hwhere6 hown6 hl6')
            | (at_builtin; (refine wpList_append_rd _ rfl (.tmp 54) (.tmp 56) 88 rfl wM.heap.size 39 r0 (.slice none 0 0) 1 24 Try.underlying88 hri hrz0 hrz1 hrz2 rfl (by decide) _ R.length (eC R) rfl (hP6.out.2.1.alloc _) _ 1 1 rfl (Nat.le_refl _) (by intro h; cases h) (eC [(⟨0, 0, x5, n5, ivL S qL⟩ : PR)]) rfl (Rd.oneEdM _ _ _ _ _ _ (by simp)) (eC_one _) (by unfold maxLen; omega) (by omega) (by simp; omega) ?_); intro v7 w7 hown7 hgrow7 hwhere7; (obtain ⟨hb7, hl7'⟩ := append_below hb6.out (fun k hk => (hP6.out.2.1.lt k hk).1) hgrow7 hwhere7)))
          have hP7 := Lib.hid (pbr_two (q := ⟨0, 0, x5, n5, ivL S qL⟩) hP6.out hq6.out hs4 hd6.out hgrow7 hown7)
          have hR7 : Hid (eM (R ++ [(⟨0, 0, x5, n5, ivL S qL⟩ : PR)]) = pbU S X V (i + 1)) := by unfold Hid; rw [hst.out.2, ← hR.out]; unfold eM; rw [List.map_append]; rfl
          have hall7 : Hid (∀ L ∈ pbU S X V (i + 1), 0 < L.length) := fun L hL => by
            rw [hst.out.2] at hL
            rcases List.mem_append.1 hL with h1 | h1
            · exact hall.out L h1
            · obtain rfl := List.mem_singleton.1 h1
              omega
          clear hgrow7 hwhere7 hown7 hl7'
          go_wp2
          go_roundw
          case rel => exact ⟨i + 1, _, by omega, by go_num, hP7, hR7, hall7, hb7⟩
          case measure => simp [intOf]; omega
    · have hij : i = T.length := by omega
      subst hij
      obtain ⟨wA, rfl⟩ : ∃ q : World, q = wr := ⟨_, rfl⟩
      obtain ⟨xf, cf, huf, -, -⟩ := (OwR.of hP.out.1).form
      obtain ⟨xi, ci, hui, -, -⟩ := (OwR.of hP.out.2.1).form
      subst huf hui
      have hF0 : feUp X V T.length = feL X V := by unfold feL; rw [hXT]
      have hI0 : pbU S X V T.length = pbI S X V := by rw [← hXT]; rfl
      obtain ⟨n, hn⟩ : ∃ n, (feL X V).length = n := ⟨_, rfl⟩
      rw [hF0] at hP hRl hfl ⊢
      rw [hI0] at hR hall
      have hIl : (pbI S X V).length = n := (pbI_len S X V).trans hn
      have hnh := Lib.hid hn
      rw [hn] at hgd hyes hpby hpn hnoH hRl hfl ⊢
      have hFI : Hid (IIn wA xf (feL X V)) := ⟨by omega, fun v hv => by
        obtain ⟨k, rfl, hk, _⟩ := pkUp_mem hv
        unfold IsI64
        omega, Rd.of_own hP.out.1⟩
      have hEI : Hid (EIn wA xi R) := ⟨by omega, fun q hq => by
        obtain ⟨j, hj, e⟩ := List.getElem_of_mem hq
        have h1 := eM_at (show R[j]? = some q by rw [List.getElem?_eq_getElem hj, e])
        rw [hR.out] at h1
        have h2 := hgd.out.2 q.L (List.mem_of_getElem? h1)
        exact ⟨by omega, fun v hv => by have := h2.2 v hv; unfold IsI64; omega, Rd.of_own (hP.out.2.2 q hq).1⟩, Rd.of_own hP.out.2.1⟩
      have hcap : Hid (∀ q ∈ R, q.L.length ≤ q.c ∧ (q.x = none → q.c = 0)) := fun q hq => by
        obtain ⟨x', c', e, h1, h2⟩ := (OwR.of (hP.out.2.2 q hq).1).form
        unfold PR.v at e
        injection e with e1 e2 e3
        subst e1 e3
        exact ⟨h1, h2⟩
      have hsA := hBw.size
      replace hRl := Lib.hid hRl
      clear hP hn hF0 hI0
      by_cases h12 : n ≤ 12
      · have hg := Lib.hid (hyes.out h12 fun j L hL => hall.out L (List.mem_of_getElem? hL))
        have hp2 := Lib.hid (hpby.out hg.out)
        have hpw := pow_i64 (n := n) (by omega)
        have hN : (2 ^ n : Nat) ≤ 4096 := Nat.pow_le_pow_right (by decide) h12
        obtain ⟨N, hNe⟩ : ∃ N : Nat, 2 ^ n = N := ⟨_, rfl⟩
        rw [hNe] at hpw hN hpn
        have hp1 := Lib.hid hpw.1
        have hNh := Lib.hid hNe
        have hwu := Lib.hid (wrapU n (by omega))
        clear hpw hNe hnoH hyes
        go_wp2
        go_loopw [16, 17, 18] (fun bz uo c wx => ∃ st : Nat, st ≤ N ∧ c = .int .i64 st ∧ bz = .int .i64 (bbF W (pbI S X V) (feL X V) n st).1 ∧ wx.ownsRow wA.heap.size 3 1 uo (otK W (pbI S X V) (feL X V) n st).length (iC (otK W (pbI S X V) (feL X V) n st)) ∧ Below wA.heap.size wA wx) (fun _ _ c _ => N - (intOf c).toNat)
        case atStart => exact ⟨0, Nat.zero_le _, rfl, by rw [bb_zero], by rw [ot_zero]; exact World.ownsRow_nil _ _ _ _, Below.refl _ _⟩
        case round =>
          obtain ⟨st, hst, rfl, rfl, hown, hBx⟩ := hrel
          have hownx := Lib.hid hown
          have hszx := hBx.size
          clear hown
          by_cases hlt2 : st < N
          · have hltN : (st : Int) < (N : Int) := by omega
            obtain ⟨wx, rfl⟩ : ∃ q : World, q = wr := ⟨_, rfl⟩
            have hst0 : (0 : Int) ≤ (st : Int) ∧ (st : Int) ≤ 4095 := by omega
            have hst0h := Lib.hid hst0
            have hp2' := hp1.out
            have hwu2 := hwu.out
            clear hst0
            go_wp2_with fail
            refine (iBitsW_any (st : Int) _ hst0h.out.1 hst0h.out.2).mono ?_
            rintro e wK ⟨uK, rfl, hoK, hbK⟩
            clear hp2' hwu2
            obtain ⟨xk, ck, rfl, -, -⟩ := (OwR.of hoK).form
            have he := lvsUp_allW (x := (st : Int)) (i := n) (n := 12) (by rw [Int.toNat_natCast]; have := hNh.out; omega) h12
            rw [← he] at hoK ⊢
            obtain ⟨ks, hks⟩ : ∃ ks, lvsUp (st : Int) n = ks := ⟨_, rfl⟩
            have hkl := lvsUp_len (st : Int) n
            have hkm := Lib.hid (fun (v : Int) (hv : v ∈ lvsUp (st : Int) n) => lvs_below hv)
            rw [hks] at hoK hkl hkm ⊢
            have hksh := Lib.hid hks
            have hKI : Hid (IIn wK xk ks) := ⟨by omega, fun v hv => by
              obtain ⟨k, rfl, hk⟩ := hkm.out v hv
              unfold IsI64
              omega, Rd.of_own hoK⟩
            have hBK : Below wA.heap.size wA wK := hBx.trans (hbK.mono hszx)
            have hownK := Lib.hid (own_below hownx.out hbK)
            have hsK := hBK.size
            clear hoK hbK he hks hownx
            go_wp2
            go_loopw [19, 20, 21, 22, 73] (fun s a uu ul c wy => ∃ t : Nat, t ≤ ks.length ∧ c = .int .i64 t ∧ s = .int .i64 (pkT W (pbI S X V) (feL X V) ks t).s ∧ a = .bool (pkT W (pbI S X V) (feL X V) ks t).a ∧ Hid (Tri wy wK.heap.size uu (pkT W (pbI S X V) (feL X V) ks t).u ul (pkT W (pbI S X V) (feL X V) ks t).l (.slice none 0 0) []) ∧ Below wK.heap.size wK wy) (fun _ _ _ _ c _ => ks.length - (intOf c).toNat)
            case atStart => exact ⟨0, by omega, rfl, by rw [pkT_zero], by rw [pkT_zero], by rw [pkT_zero]; exact tri_start (World.ownsRow_nil _ _ _ _), Below.refl _ _⟩
            case round =>
              obtain ⟨t, ht, rfl, rfl, rfl, hTri, hby⟩ := hrel
              have hszy := hby.size
              have hByA : Below wA.heap.size wA wr := hBK.trans (hby.mono hsK)
              by_cases hltt : t < ks.length
              · obtain ⟨wy, rfl⟩ : ∃ q : World, q = wr := ⟨_, rfl⟩
                obtain ⟨bk, ok, v, hxk, hbk, hkt, hck⟩ := (hKI.out.below hby).2.2.int hltt
                subst hxk
                obtain ⟨k, rfl, hk⟩ := hkm.out v (List.mem_of_getElem? hkt)
                obtain ⟨bq, oq, ⟨qa, qh, qx, qc, qL⟩, hxi, hbqA, hRq, hcqA⟩ := hEI.out.2.2.ed (i := k) (by have := hRl.out; omega)
                subst hxi
                obtain ⟨bf, of, f, hxf, hbfA, hKf, hcfA⟩ := hFI.out.2.2.int (i := k) (by have := hnh.out; omega)
                subst hxf
                have hLk := eM_at hRq
                rw [hR.out] at hLk
                dsimp only at hLk hcqA hRq
                have hcq := (hByA.cell (p := ⟨bq, oq + k, none⟩) hbqA).trans hcqA
                have hcf := (hByA.cell (p := ⟨bf, of + k, none⟩) hbfA).trans hcfA
                have hqmem := Lib.hid (hEI.out.2.1 _ (List.mem_of_getElem? hRq))
                have hqin := Lib.hid (hqmem.out.below hByA)
                have hqc := Lib.hid (hcap.out _ (List.mem_of_getElem? hRq))
                dsimp only at hqmem hqin hqc
                have hnx := Lib.hid (pkT_next (W := W) hkt hLk hKf)
                have hqp : 0 < qL.length := hall.out qL (List.mem_of_getElem? hLk)
                have hqm2 := Lib.hid (pb_mem (List.mem_of_getElem? hLk))
                have hgq := (hgd.out.2 qL (List.mem_of_getElem? hLk)).1
                obtain ⟨xu, cu, huu, -, -⟩ := (OwR.of hTri.out.1).form
                subst huu
                have b : PkB (pkT W (pbI S X V) (feL X V) ks t) (ks.take t).length := pk_bd (K := feL X V) hw0.out hgd.out _ (ks.take t) rfl
                have htk : (ks.take t).length = t := by rw [List.length_take]; omega
                rw [htk] at b
                have u1 := b.u1
                have s0 := b.s0
                have s1 := b.s1
                have l1 := b.l1
                have u2 := Lib.hid b.u2
                have lb := lwF_bd hw0.out qL 100 (by omega)
                have haddh : Hid (wrap64 ((pkT W (pbI S X V) (feL X V) ks t).s + lwZ W qL) = (pkT W (pbI S X V) (feL X V) ks t).s + lwZ W qL) := IntWalk.wrap64_in _ (by unfold lwZ; omega)
                have hUin : Hid (IIn wy xu (pkT W (pbI S X V) (feL X V) ks t).u) := ⟨by omega, fun v hv => by have := u2.out v hv; unfold IsI64; omega, Rd.of_own hTri.out.1⟩
                have hb8y : Hid (∀ w8 : World, wy.grownBy w8 (Value.slice xu (pkT W (pbI S X V) (feL X V) ks t).u.length cu).ownBlock → w8.cell? ⟨bf, of + k, none⟩ = some (.int .i64 f) ∧ w8.cell? ⟨bq, oq + k, none⟩ = some (.slice qx qL.length qc)) := fun w8 hg => by
                  have hbz := (Below.refl wK.heap.size wK)
                  have hbb : Below wA.heap.size wA w8 := hByA.grown hg hByA.size (fun k hk => by have := (hTri.out.1.lt k hk).1; omega)
                  exact ⟨(hbb.cell (p := ⟨bf, of + k, none⟩) hbfA).trans hcfA, (hbb.cell (p := ⟨bq, oq + k, none⟩) hbqA).trans hcqA⟩
                have hltt' : (t : Int) < (ks.length : Int) := by omega
                have ht0 : (0 : Int) ≤ (t : Int) := by omega
                have hkn : (k : Int) < (n : Int) := by omega
                have hkR : (k : Int) < (R.length : Int) := by have := hRl.out; omega
                have hk0 : (0 : Int) ≤ (k : Int) := by omega
                clear hkt hLk hRq hKf lb b
                cases haa : (pkT W (pbI S X V) (feL X V) ks t).a
                · have haN : Hid ((pkT W (pbI S X V) (feL X V) ks (t + 1)).a = false) := by unfold Hid; rw [hnx.out.1, haa]; rfl
                  replace haa := Lib.hid haa
                  go_wp2_with (at_builtin; go_loud (refine wpList_append_rd _ rfl (.tmp 87) (.tmp 91) 39 rfl wK.heap.size 3 i0 (.int .i64 0) 1 8 Try.underlying39 hii hz0 hz1 hz2 rfl (by decide) _ (pkT W (pbI S X V) (feL X V) ks t).u.length (iC (pkT W (pbI S X V) (feL X V) ks t).u) rfl (hTri.out.1) _ qL.length qc rfl hqc.out.1 hqc.out.2 (iC qL) (by rw [iC_len, Nat.mul_one]) (hqin.out.2.2) (iC_one _) (by unfold maxLen; omega) (by omega) (by omega) ?_); intro v8 w8 hown8 hgrow8 hwhere8; (obtain ⟨hb8, hl8⟩ := append_below0 hby (fun k hk => (hTri.out.1.lt k hk).1) hgrow8 hwhere8); (have hB8 : Below wA.heap.size wA w8 := hBK.trans (hb8.mono hsK)); (have hcf8 := (hb8y.out w8 hgrow8).1); (have hcq8 := (hb8y.out w8 hgrow8).2))
                  have hT8 := Lib.hid (tri_u (U' := (pkT W (pbI S X V) (feL X V) ks t).u ++ qL) hTri.out hgrow8 (own_eq hown8 (by simp) (by unfold iC; rw [List.map_append])) hwhere8)
                  have hBw8 : Below w.heap.size w w8 := hBw.trans (hB8.mono hsA)
                  have hqin8 := Lib.hid (hqmem.out.below hB8)
                  have hs8 := hb8.size
                  clear hgrow8 hwhere8 hown8 hl8
                  refine (iLeast_any _ _ _ _ W qL _ hwr.out hqp (fun v hv => by obtain ⟨j, e, hj⟩ := hqm2.out v hv; exact ⟨j, e, by have := hwl.out; omega⟩) (hWh.out.below (by exact hBw8)) hqin8.out).mono ?_
                  rintro e w9 ⟨rfl, rfl⟩
                  go_wp2_with (at_builtin; go_loud (refine wpList_append_rd _ rfl (.tmp 101) (.tmp 106) 39 rfl (wK.heap.size) 3 i0 (.int .i64 0) 1 8 Try.underlying39 hii hz0 hz1 hz2 rfl (by decide) _ ((pkT W (pbI S X V) (feL X V) ks t).l).length (iC ((pkT W (pbI S X V) (feL X V) ks t).l)) rfl ((hT8.out.2.1.alloc _)) _ 1 1 rfl (Nat.le_refl _) (by intro h; cases h) (iC [(f : Int)]) rfl (rd_oneE _ _ _ _ (by simp)) (iC_one _) (by unfold maxLen; omega) (by omega) (by simp; omega) ?_); intro v3 w3 hown3 hgrow3 hwhere3)
                  obtain ⟨hb3, hl3⟩ := append_below hb8 (fun k hk => (hT8.out.2.1.lt k hk).1) hgrow3 hwhere3
                  have hT3 := Lib.hid (tri_l (L' := (pkT W (pbI S X V) (feL X V) ks t).l ++ [f]) hT8.out hgrow3 (own_snocE hown3 rfl rfl) hwhere3)
                  clear hgrow3 hwhere3 hown3 hl3
                  go_wp2
                  go_roundw
                  case rel => exact ⟨t + 1, by omega, by go_num, by rw [hnx.out.2.2.1, haddh.out], by rw [haN.out], by rw [hnx.out.2.1, hnx.out.2.2.2]; exact hT3, hb3⟩
                  case measure => simp [intOf]; omega
                · have haN : Hid ((pkT W (pbI S X V) (feL X V) ks (t + 1)).a = !shB qL (pkT W (pbI S X V) (feL X V) ks t).u) := by unfold Hid; rw [hnx.out.1, haa]; rfl
                  replace haa := Lib.hid haa
                  go_wp2_with fail
                  refine (iShares_any _ _ _ _ qL (pkT W (pbI S X V) (feL X V) ks t).u _ hqin.out hUin.out).mono ?_
                  rintro e wz ⟨rfl, rfl⟩
                  go_wp2_with (at_builtin; go_loud (refine wpList_append_rd _ rfl (.tmp 87) (.tmp 91) 39 rfl wK.heap.size 3 i0 (.int .i64 0) 1 8 Try.underlying39 hii hz0 hz1 hz2 rfl (by decide) _ (pkT W (pbI S X V) (feL X V) ks t).u.length (iC (pkT W (pbI S X V) (feL X V) ks t).u) rfl (hTri.out.1) _ qL.length qc rfl hqc.out.1 hqc.out.2 (iC qL) (by rw [iC_len, Nat.mul_one]) (hqin.out.2.2) (iC_one _) (by unfold maxLen; omega) (by omega) (by omega) ?_); intro v8 w8 hown8 hgrow8 hwhere8; (obtain ⟨hb8, hl8⟩ := append_below0 hby (fun k hk => (hTri.out.1.lt k hk).1) hgrow8 hwhere8); (have hB8 : Below wA.heap.size wA w8 := hBK.trans (hb8.mono hsK)); (have hcf8 := (hb8y.out w8 hgrow8).1); (have hcq8 := (hb8y.out w8 hgrow8).2))
                  have hT8 := Lib.hid (tri_u (U' := (pkT W (pbI S X V) (feL X V) ks t).u ++ qL) hTri.out hgrow8 (own_eq hown8 (by simp) (by unfold iC; rw [List.map_append])) hwhere8)
                  have hBw8 : Below w.heap.size w w8 := hBw.trans (hB8.mono hsA)
                  have hqin8 := Lib.hid (hqmem.out.below hB8)
                  have hs8 := hb8.size
                  clear hgrow8 hwhere8 hown8 hl8
                  refine (iLeast_any _ _ _ _ W qL _ hwr.out hqp (fun v hv => by obtain ⟨j, e, hj⟩ := hqm2.out v hv; exact ⟨j, e, by have := hwl.out; omega⟩) (hWh.out.below (by exact hBw8)) hqin8.out).mono ?_
                  rintro e w9 ⟨rfl, rfl⟩
                  go_wp2_with (at_builtin; go_loud (refine wpList_append_rd _ rfl (.tmp 101) (.tmp 106) 39 rfl (wK.heap.size) 3 i0 (.int .i64 0) 1 8 Try.underlying39 hii hz0 hz1 hz2 rfl (by decide) _ ((pkT W (pbI S X V) (feL X V) ks t).l).length (iC ((pkT W (pbI S X V) (feL X V) ks t).l)) rfl ((hT8.out.2.1.alloc _)) _ 1 1 rfl (Nat.le_refl _) (by intro h; cases h) (iC [(f : Int)]) rfl (rd_oneE _ _ _ _ (by simp)) (iC_one _) (by unfold maxLen; omega) (by omega) (by simp; omega) ?_); intro v3 w3 hown3 hgrow3 hwhere3)
                  obtain ⟨hb3, hl3⟩ := append_below hb8 (fun k hk => (hT8.out.2.1.lt k hk).1) hgrow3 hwhere3
                  have hT3 := Lib.hid (tri_l (L' := (pkT W (pbI S X V) (feL X V) ks t).l ++ [f]) hT8.out hgrow3 (own_snocE hown3 rfl rfl) hwhere3)
                  clear hgrow3 hwhere3 hown3 hl3
                  go_wp2
                  go_roundw
                  case rel => exact ⟨t + 1, by omega, by go_num, by rw [hnx.out.2.2.1, haddh.out], by rw [haN.out], by rw [hnx.out.2.1, hnx.out.2.2.2]; exact hT3, hb3⟩
                  case measure => simp [intOf]; omega
              · have hij : t = ks.length := by omega
                subst hij
                have hpa := pkT_all W (pbI S X V) (feL X V) ks
                obtain ⟨xl, cl, hul, -, -⟩ := (OwR.of hTri.out.2.1).form
                subst hul
                have hBwy := hBw.trans (hByA.mono hsA)
                have hksE := hksh.out
                have hout := Lib.hid (own_below hownK.out hby)
                have hlst := Lib.hid (own_more (base' := wA.heap.size) hTri.out.2.1 hsK)
                rw [hpa] at hlst ⊢
                have hBB := bb_bd (K := feL X V) hw0.out hgd.out h12 st
                cases haa : (pkF W (pbI S X V) (feL X V) ks).a
                · have hnx1 := Lib.hid (bb_no1 (W := W) (Iv := pbI S X V) (K := feL X V) (n := n) (st := st) (by rw [hksE]; exact haa))
                  have hnx2 := Lib.hid (ot_no1 (W := W) (Iv := pbI S X V) (K := feL X V) (n := n) (st := st) (by rw [hksE]; exact haa))
                  replace haa := Lib.hid haa
                  go_wp2
                  go_roundw
                  case rel => exact ⟨st + 1, by omega, by go_num, by rw [hnx1.out], by rw [hnx2.out]; exact hout.out, hByA⟩
                  case measure => simp [intOf]; omega
                · by_cases hk : (bbF W (pbI S X V) (feL X V) n st).1 < (pkF W (pbI S X V) (feL X V) ks).s
                  · have hnx1 := Lib.hid (bb_yes (W := W) (Iv := pbI S X V) (K := feL X V) (n := n) (st := st) (by rw [hksE]; exact haa) (by rw [hksE]; exact hk))
                    have hnx2 := Lib.hid (ot_yes (W := W) (Iv := pbI S X V) (K := feL X V) (n := n) (st := st) (by rw [hksE]; exact haa) (by rw [hksE]; exact hk))
                    rw [hksE] at hnx1 hnx2
                    replace haa := Lib.hid haa
                    go_wp2
                    go_roundw
                    case rel => exact ⟨st + 1, by omega, by go_num, by rw [hnx1.out], by rw [hnx2.out]; exact hlst.out, hByA⟩
                    case measure => simp [intOf]; omega
                  · have hnx1 := Lib.hid (bb_no2 (W := W) (Iv := pbI S X V) (K := feL X V) (n := n) (st := st) (by rw [hksE]; exact hk))
                    have hnx2 := Lib.hid (ot_no2 (W := W) (Iv := pbI S X V) (K := feL X V) (n := n) (st := st) (by rw [hksE]; exact hk))
                    replace haa := Lib.hid haa
                    go_wp2
                    go_roundw
                    case rel => exact ⟨st + 1, by omega, by go_num, by rw [hnx1.out], by rw [hnx2.out]; exact hout.out, hByA⟩
                    case measure => simp [intOf]; omega
          · have hij : st = N := by omega
            subst hij
            have hBf := hBw.trans (hBx.mono hsA)
            have hp2' := hp1.out
            have hwu2 := hwu.out
            have hfin : Hid (otK W (pbI S X V) (feL X V) n st = pbL S (eM Q) W V) := by unfold Hid otK; rw [hp2.out.2, hpn.out]
            have hfz : Hid (pbZ S (eM Q) W V = (bbF W (pbI S X V) (feL X V) n st).1) := by unfold Hid; rw [hp2.out.1, hpn.out]
            go_wp2
            go_ret3
            exact retILB_yes hg.out hfz.out rfl (by rw [← hfin.out]; exact own_more hownx.out hsA) hBf
      · have hno := Lib.hid (pg_no2 (S := S) (M := eM Q) (W := W) (V := V) (by rw [hXh.out]; have := hnh.out; omega))
        have hgt : (12 : Int) < (n : Int) := by omega
        go_wp2
        go_ret3
        exact retILB_no hno.out hBw
theorem sPB_m (x y z u : Option Addr) (c1 c2 c3 c4 : Nat) (S : List (ByteArray × Int)) (Q : List PR) (W V : List Int) (w : World) (hS : SIn w x c1 S) (hQ : EIn w y Q) (hW : IIn w z W) (hV : IIn w u V) (M : List (List Int)) (hM : eM Q = M) :
    Calls Try.prog 34 #[.slice x S.length c1, .slice y Q.length c2, .slice z W.length c3, .slice u V.length c4] w (RetILB (pbZ S M W V) (pbL S M W V) (pbG S M W V) w) := by subst hM; exact sPB_x x y z u c1 c2 c3 c4 S Q W V w hS hQ hW hV
theorem iPB_m (x y z u : Option Addr) (c1 c2 c3 c4 : Nat) (S : List (ByteArray × Int)) (Q : List PR) (W V : List Int) (w : World) (hS : SIn w x c1 S) (hQ : EIn w y Q) (hW : IIn w z W) (hV : IIn w u V) (M : List (List Int)) (hM : eM Q = M) :
    Calls Try.prog 35 #[.slice x S.length c1, .slice y Q.length c2, .slice z W.length c3, .slice u V.length c4] w (RetILB (pbZ S M W V) (pbL S M W V) (pbG S M W V) w) := by subst hM; exact iPB_x x y z u c1 c2 c3 c4 S Q W V w hS hQ hW hV
end Go.Proofs.Ytmcibcechffppaa
