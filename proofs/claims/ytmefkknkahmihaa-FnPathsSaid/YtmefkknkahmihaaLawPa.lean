/- The law FnPaths: for every two slices of bytes, the geographies and areas that the model draws from them: the program's path is the model's; the area at each level of the path is the ancestor at that level, and its depth is that level; two areas meet where the model says, whichever comes first; the answer on uniformity is the model's; nothing that was there is written. No condition. -/
import Derived.Test.YtmefkknkahmihaaDrwB
import Derived.Test.YtmefkknkahmihaaGeoJ
import Derived.Test.YtmefkknkahmihaaGeoK
import Derived.Test.YtmefkknkahmihaaGeoM
import Derived.Test.YtmefkknkahmihaaGeoN
namespace Go.Proofs.Ytmefkknkahmihaa
open Go.ChangeShapes Go.WideShapes Go.ChangeAt Go.RowKit
open Go.Joins
set_option maxRecDepth 100000

theorem pa_at {P : List Int} (h : geB P = true) {i : Nat} (hi : i < P.length) : ∀ (l : Nat) (v : Int), (ptL P i)[l]? = some v → ∃ k : Nat, v = k ∧ k < P.length ∧ dpN P k = l := by
  refine ge_ind h (Q := fun i => ∀ (l : Nat) (v : Int), (ptL P i)[l]? = some v → ∃ k : Nat, v = k ∧ k < P.length ∧ dpN P k = l) ?_ (fun i p hiP h1 h2 h3 => ?_) i hi
  · intro l v hl
    rw [pt_zero] at hl
    have hl0 : l = 0 := by
      have := (List.getElem?_eq_some_iff.1 hl).1
      simp at this
      exact this
    subst hl0
    simp at hl
    subst hl
    exact ⟨0, rfl, by omega, dp_zero P⟩
  · intro l v hl
    have h3' : ∀ (l : Nat) (v : Int), (ptL P p)[l]? = some v → ∃ k : Nat, v = k ∧ k < P.length ∧ dpN P k = l := h3
    rw [pt_step h1 h2] at hl
    by_cases hc : l < (ptL P p).length
    · rw [List.getElem?_append_left hc] at hl
      exact h3' l v hl
    · have hlt := (List.getElem?_eq_some_iff.1 hl).1
      simp at hlt
      have e : l = (ptL P p).length := by omega
      subst e
      simp at hl
      subst hl
      exact ⟨i, rfl, hiP, by rw [dp_step h1 h2, pt_len]⟩
theorem mtB_comm (P : List Int) (i k : Int) : mtB P k i = mtB P i k := by unfold mtB; rw [Bool.and_comm]
theorem mtR_comm (P : List Int) (i k : Int) : mtR P k i = mtR P i k := by unfold mtR mtZ; rw [mtB_comm, cp_comm]
theorem pa_step {P : List Int} {i a : Int} {j : Nat} (hj : (gIf (gaB P i) (ptL P i.toNat))[j]? = some a) : aaB P i j = true ∧ aaZ P i j = a ∧ gaB P a = true ∧ dpZ P a = j := by
  cases hg : gaB P i with
  | false =>
    rw [hg] at hj
    simp [gIf] at hj
  | true =>
    rw [hg] at hj
    have hj : (ptL P i.toNat)[j]? = some a := hj
    have hg' := hg
    unfold gaB at hg'
    rw [Bool.and_eq_true, inB_iff] at hg'
    obtain ⟨k, rfl, hk, hd⟩ := pa_at hg'.1 (show i.toNat < P.length by omega) j a hj
    have hlt := (List.getElem?_eq_some_iff.1 hj).1
    rw [pt_len] at hlt
    have h1 : aaB P i j = true := by
      unfold aaB
      rw [hg, decide_eq_true (show (0 : Int) ≤ (j : Int) by omega), decide_eq_true (show (j : Int) ≤ (dpN P i.toNat : Int) by omega)]
      rfl
    have h3 : gaB P k = true := by
      unfold gaB
      rw [hg'.1, (inB_iff _ _ _).2 ⟨by omega, by omega⟩]
      rfl
    refine ⟨h1, ?_, h3, ?_⟩
    · unfold aaZ
      rw [h1, if_pos rfl, an_at hj]
    · rw [dpZ_yes h3, hd]
theorem ge_i64g {L : List Int} (h : GeL L) : ∀ n ∈ L, IsI64 n := fun n hn => by have := h n hn; unfold IsI64; omega
set_option maxHeartbeats 8000000 in
theorem fnPaths_any (x1 x2 : Option Addr) (n1 c1 n2 c2 : Nat) (w : World) (hB1 : ByRd w x1 n1) (hB2 : ByRd w x2 n2) (hl1 : n1 ≤ 140737488355327) (hl2 : n2 ≤ 140737488355327) :
    Calls Try.prog 3 #[.slice x1 n1 c1, .slice x2 n2 c2] w fun e w' => e = .returned (.bool true) ∧ Below w.heap.size w w' := by
  have hX1 := Lib.hid hB1.low
  have hX2 := Lib.hid hB2.low
  have hD1 := Lib.hid hB1
  have hD2 := Lib.hid hB2
  clear hB1 hB2
  cases hg : decide (1048576 < n1 + n2) with
  | true =>
    have hm := big_any x1 x2 n1 n2 c1 c2 w (by omega) (by omega)
    rw [hg] at hm
    replace hm := Lib.hid hm
    go_enter Try.func3, Try.ntmps3
    go_wp2_with fail
    refine hm.out.mono ?_
    rintro e wz ⟨rfl, rfl⟩
    go_wp2_with fail
    go_ret
    exact ⟨rfl, (by repeat (first | exact Below.refl _ _ | assumption | refine Below.drew ?_ | refine below_drewN ?_ _ | refine Below.alloc' ?_ _ | (refine Below.setCell ?_ (by first | omega | (simp; done) | (simp; omega) | exact Below.size (by assumption) | exact Nat.le_trans (Below.size (by assumption)) (by simp)) _) | (refine Below.via' ?_ (by assumption)) | (refine Below.alloc ?_ (by first | omega | (simp; done) | (simp; omega) | exact Below.size (by assumption) | exact Nat.le_trans (Below.size (by assumption)) (by simp)) _) | (refine Below.via ?_ (by assumption) (by first | omega | (simp; done) | (simp; omega) | exact Below.size (by assumption) | exact Nat.le_trans (Below.size (by assumption)) (by simp)))))⟩
  | false =>
    have hm := big_any x1 x2 n1 n2 c1 c2 w (by omega) (by omega)
    rw [hg] at hm
    replace hm := Lib.hid hm
    clear hg
    go_enter Try.func3, Try.ntmps3
    go_wp2_with fail
    refine hm.out.mono ?_
    rintro e wz ⟨rfl, rfl⟩
    clear hm
    go_wp2_with fail
    refine (drawPT_any x1 n1 c1 _ (fun h0 c off e => hX1.out h0 c off e) hD1.out).mono ?_
    rintro e w1 ⟨L, z, cz, i, rfl, hI, hL, hcz, hzn, i0, i1, hzc, hR, hb⟩
    have B1 : Below w.heap.size w w1 := (by repeat (first | exact Below.refl _ _ | assumption | refine Below.drew ?_ | refine below_drewN ?_ _ | refine Below.alloc' ?_ _ | (refine Below.setCell ?_ (by first | omega | (simp; done) | (simp; omega) | exact Below.size (by assumption) | exact Nat.le_trans (Below.size (by assumption)) (by simp)) _) | (refine Below.via' ?_ (by assumption)) | (refine Below.alloc ?_ (by first | omega | (simp; done) | (simp; omega) | exact Below.size (by assumption) | exact Nat.le_trans (Below.size (by assumption)) (by simp)) _) | (refine Below.via ?_ (by assumption) (by first | omega | (simp; done) | (simp; omega) | exact Below.size (by assumption) | exact Nat.le_trans (Below.size (by assumption)) (by simp)))))
    have J1 : Hid (IIn (w1.alloc (.cells #[.slice z L.length cz] 26)) z L) := ⟨by omega, ge_i64g hI, hR.alloc _⟩
    have K1 := Lib.hid (Wb.new w1 26 #[.slice z L.length cz])
    clear hI hzc hR hb hzn
    go_wp2_with fail
    refine (iPT_x z cz L i _ J1.out).mono ?_
    rintro e w2 ⟨v7, rfl, O7, hb⟩
    obtain ⟨y7, d7, rfl, -, -⟩ := own_form O7
    have R7 := Lib.hid (Rd.of_own O7)
    have J2 := Lib.hid (J1.out.below hb)
    have K2 := Lib.hid (K1.out.kept hb)
    have B2 : Below w.heap.size w w2 := (by repeat (first | exact Below.refl _ _ | assumption | refine Below.drew ?_ | refine below_drewN ?_ _ | refine Below.alloc' ?_ _ | (refine Below.setCell ?_ (by first | omega | (simp; done) | (simp; omega) | exact Below.size (by assumption) | exact Nat.le_trans (Below.size (by assumption)) (by simp)) _) | (refine Below.via' ?_ (by assumption)) | (refine Below.alloc ?_ (by first | omega | (simp; done) | (simp; omega) | exact Below.size (by assumption) | exact Nat.le_trans (Below.size (by assumption)) (by simp)) _) | (refine Below.via ?_ (by assumption) (by first | omega | (simp; done) | (simp; omega) | exact Below.size (by assumption) | exact Nat.le_trans (Below.size (by assumption)) (by simp)))))
    have c2 := K2.out.read 0
    clear O7 hb J1 K1 B1
    go_wp2_with fail
    refine (sPT_x z cz L i _ J2.out).mono ?_
    rintro e w3 ⟨v9, rfl, O9, hb⟩
    obtain ⟨y9, d9, rfl, -, -⟩ := own_form O9
    have R9 := Lib.hid (Rd.of_own O9)
    have S7 := Lib.hid (R7.out.below hb)
    have J3 := Lib.hid (J2.out.below hb)
    have K3 := Lib.hid (K2.out.kept hb)
    have B3 : Below w.heap.size w w3 := (by repeat (first | exact Below.refl _ _ | assumption | refine Below.drew ?_ | refine below_drewN ?_ _ | refine Below.alloc' ?_ _ | (refine Below.setCell ?_ (by first | omega | (simp; done) | (simp; omega) | exact Below.size (by assumption) | exact Nat.le_trans (Below.size (by assumption)) (by simp)) _) | (refine Below.via' ?_ (by assumption)) | (refine Below.alloc ?_ (by first | omega | (simp; done) | (simp; omega) | exact Below.size (by assumption) | exact Nat.le_trans (Below.size (by assumption)) (by simp)) _) | (refine Below.via ?_ (by assumption) (by first | omega | (simp; done) | (simp; omega) | exact Below.size (by assumption) | exact Nat.le_trans (Below.size (by assumption)) (by simp)))))
    clear O9 hb J2 K2 B2 R7 c2
    obtain ⟨M, hM⟩ : ∃ M, gIf (gaB L i) (ptL L i.toNat) = M := ⟨_, rfl⟩
    have hMl : M.length ≤ 1048576 := by
      rw [← hM]
      refine gIf_len _ _ (fun hg => ?_)
      unfold gaB at hg
      rw [Bool.and_eq_true, inB_iff] at hg
      rw [pt_len]
      have := dp_le hg.1 (show i.toNat < L.length by omega)
      omega
    rw [hM] at R9 S7
    have hstep : Hid (∀ (j : Nat) (a : Int), M[j]? = some a → aaB L i j = true ∧ aaZ L i j = a ∧ gaB L a = true ∧ dpZ L a = j) := fun j a h => pa_step (by rw [hM]; exact h)
    have hq := Lib.hid (fun W (h1 : Rd W y7 (iC M)) (h2 : Rd W y9 (iC M)) => sameInts_any y7 y9 d7 d9 M W hMl h1 h2)
    have hme : (gIf (gaB L i) (ptL L i.toNat)).length = M.length := by rw [hM]
    rw [hM]
    clear hM hme
    go_wp2_with fail
    refine (hq.out _ S7.out R9.out).mono ?_
    rintro e w4 ⟨rfl, hb⟩
    have R4 := Lib.hid (R9.out.below hb)
    have J4 := Lib.hid (J3.out.below hb)
    have K4 := Lib.hid (K3.out.kept hb)
    have B4 : Below w.heap.size w w4 := (by repeat (first | exact Below.refl _ _ | assumption | refine Below.drew ?_ | refine below_drewN ?_ _ | refine Below.alloc' ?_ _ | (refine Below.setCell ?_ (by first | omega | (simp; done) | (simp; omega) | exact Below.size (by assumption) | exact Nat.le_trans (Below.size (by assumption)) (by simp)) _) | (refine Below.via' ?_ (by assumption)) | (refine Below.alloc ?_ (by first | omega | (simp; done) | (simp; omega) | exact Below.size (by assumption) | exact Nat.le_trans (Below.size (by assumption)) (by simp)) _) | (refine Below.via ?_ (by assumption) (by first | omega | (simp; done) | (simp; omega) | exact Below.size (by assumption) | exact Nat.le_trans (Below.size (by assumption)) (by simp)))))
    replace B4 := Lib.hid B4
    clear hb J3 K3 B3 R9 S7 hq
    go_wp2_with fail
    go_loopw [61] (fun c wr => ∃ j : Nat, j ≤ M.length ∧ c = .int .i64 j ∧ Hid (Below w4.heap.size w4 wr)) (fun c _ => M.length - (intOf c).toNat)
    case atStart => exact ⟨0, by omega, rfl, Below.refl _ _⟩
    case round =>
      obtain ⟨j, hj, rfl, hb⟩ := hrel
      have Jr := Lib.hid (J4.out.below hb.out)
      have Kr := Lib.hid (K4.out.kept hb.out)
      by_cases hlt : j < M.length
      · obtain ⟨bl, off, a, hy, hbl, hMa, hc0⟩ := (R4.out.below hb.out).int hlt
        subst hy
        obtain ⟨s1, s2, s3, s4⟩ := hstep.out j a hMa
        have hlt' : (j : Int) < (M.length : Int) := by omega
        have cr := Kr.out.read 0
        have hA : Hid (∀ W, IIn W z L → Calls Try.prog 9 #[.agg #[.slice z L.length cz], .int .i64 i, .int .i64 (j : Int)] W fun e w' => e = .returned (.tuple #[.int .i64 a, .bool true]) ∧ Below W.heap.size W w') := fun W h => by
          have hm := iAA_x z cz L i j W h
          rw [s1, s2] at hm
          exact hm
        have hP : Hid (∀ W, IIn W z L → Calls Try.prog 10 #[.agg #[.slice z L.length cz], .int .i64 a] W fun e w' => e = .returned (.tuple #[.int .i64 (j : Int), .bool true]) ∧ Below W.heap.size W w') := fun W h => by
          have hm := iDP_x z cz L a W h
          rw [s3, s4] at hm
          exact hm
        clear s1 s2 s3 s4 hMa
        go_wp2_with fail
        refine (hA.out _ Jr.out).mono ?_
        rintro e w5 ⟨rfl, hb5⟩
        have J5 := Lib.hid (Jr.out.below hb5)
        have K5 := Lib.hid (Kr.out.kept hb5)
        have c5 := K5.out.read 0
        have B5 := Lib.hid (Below.via' hb.out hb5)
        clear hb5 hb Jr Kr cr hc0
        go_wp2_with fail
        refine (hP.out _ J5.out).mono ?_
        rintro e w6 ⟨rfl, hb6⟩
        have B6 := Lib.hid (Below.via' B5.out hb6)
        clear hb6 J5 K5 c5 B5
        go_wp2_with fail
        go_roundw
        case rel => exact ⟨j + 1, by omega, by go_num, B6⟩
        case measure => simp [intOf]; omega
      · have hij : j = M.length := by omega
        subst hij
        have Br := Lib.hid (Below.via' B4.out hb.out)
        have hsr := Br.out.size
        clear R4 J4 K4 B4 Jr Kr hb hstep
        go_wp2_with fail
        refine (drawMO_any x2 n2 c2 _ (fun h0 c off e => by have := hX2.out h0 c off e; omega) (hD2.out.below Br.out)).mono ?_
        rintro e w7 ⟨G, y, cy, h, k, rfl, hI, hL', hcy, hyn, h0, h1, k0, k1, hR, hb⟩
        have B7 := Lib.hid (Below.via' Br.out hb)
        have hs7 := B7.out.size
        have J7 : Hid (IIn (w7.alloc (.cells #[.slice y G.length cy] 26)) y G) := ⟨by omega, ge_i64g hI, hR.alloc _⟩
        have K7 := Lib.hid (Wb.new w7 26 #[.slice y G.length cy])
        have B8 := Lib.hid (B7.out.alloc hs7 (.cells #[.slice y G.length cy] 26))
        clear hI hR hb hyn B7 Br
        go_wp2_with fail
        refine (iMT_x y cy G h k _ J7.out).mono ?_
        rintro e w8 ⟨rfl, hb⟩
        have J8 := Lib.hid (J7.out.below hb)
        have K8 := Lib.hid (K7.out.kept hb)
        have c8 := K8.out.read 0
        have B9 := Lib.hid (Below.via' B8.out hb)
        clear hb J7 K7 B8
        go_wp2_with fail
        refine (sMT_x y cy G h k _ J8.out).mono ?_
        rintro e w9 ⟨rfl, hb⟩
        have J9 := Lib.hid (J8.out.below hb)
        have K9 := Lib.hid (K8.out.kept hb)
        have c9 := K9.out.read 0
        have B10 := Lib.hid (Below.via' B9.out hb)
        clear hb J8 K8 B9
        have hm2 : Hid (∀ W, IIn W y G → Calls Try.prog 12 #[.agg #[.slice y G.length cy], .int .i64 k, .int .i64 h] W fun e w' => e = .returned (.tuple #[.int .i64 (mtR G h k), .bool (mtB G h k)]) ∧ Below W.heap.size W w') := fun W hW => by
          have hm := iMT_x y cy G k h W hW
          rw [mtR_comm, mtB_comm] at hm
          exact hm
        go_wp2_with fail
        refine (hm2.out _ J9.out).mono ?_
        rintro e w10 ⟨rfl, hb⟩
        have J10 := Lib.hid (J9.out.below hb)
        have K10 := Lib.hid (K9.out.kept hb)
        have c10 := K10.out.read 0
        have B11 := Lib.hid (Below.via' B10.out hb)
        clear hb J9 K9 B10
        go_wp2_with fail
        refine (iUN_x y cy G _ J10.out).mono ?_
        rintro e w11 ⟨rfl, hb⟩
        have J11 := Lib.hid (J10.out.below hb)
        have K11 := Lib.hid (K10.out.kept hb)
        have c11 := K11.out.read 0
        have B12 := Lib.hid (Below.via' B11.out hb)
        clear hb J10 K10 B11
        go_wp2_with fail
        refine (sUN_x y cy G _ J11.out).mono ?_
        rintro e w12 ⟨rfl, hb⟩
        have B13 := Lib.hid (Below.via' B12.out hb)
        clear hb
        go_wp2_with fail
        go_ret
        exact ⟨rfl, B13.out⟩
set_option maxRecDepth 100000 in
theorem fnPaths_lifted (os : Os) (started : os.Started) (H : Type) (enc : TypeId × Value → H) :
    ReturnsInHanded {} Try.checked os 3 .any (Rows.fnPathsSpec.pre6 enc Try.prog Try.f3 Rows.fnPathsRow.domain false) (Rows.fnPathsSpec.post enc Try.prog Try.f3 false true false false) := by
  refine returnsInHanded_of_change_sized (C := Try.checked) own started (by kernel_rfl) Try.func3
    (ChangeSpec.witness6 (enc := enc) (C := Try.checked) false ⟨#[], #[.slice none 0 0, .slice none 0 0], []⟩ 8 (by kernel_rfl) (by kernel_rfl) (by kernel_rfl) (by kernel_rfl)) ?_
  intro W base args ds gs before hval0 hW hcnd hwt _
  have hval : ∀ (j : Nat) t v, Try.f3.params[j]? = some t → args[j]? = some v → Value.okWide Try.prog W .any base t v := hval0
  have hW' := hW
  obtain ⟨p, q, hA0, hV, rfl, hfz, hnd⟩ := hW
  have hA : DataW.TrodAll enc Try.prog W 0 (fun _ => true) true Try.f3.params.toList args.toList ds p := hA0
  rw [Try.params3] at hA hval
  obtain ⟨v0, v1, d0, d1, p0, p1, rfl, rfl, rfl, h0, h1⟩ := trodAll_two hA
  have hb8 : Try.checked.prog.bytesOf 5 = 1 := by kernel_rfl
  have hw0 : ∀ elems spare, d0 = .slice elems spare → elems.length ≤ 140737488355327 := fun elems spare e => by
    have h1 := sized_slice hwt (j := 0) rfl (by rw [e]; rfl) Try.underlying22
    have h2 := reachBytes_lt
    rw [hb8] at h1
    omega
  have hw1 : ∀ elems spare, d1 = .slice elems spare → elems.length ≤ 140737488355327 := fun elems spare e => by
    have h1 := sized_slice hwt (j := 1) rfl (by rw [e]; rfl) Try.underlying22
    have h2 := reachBytes_lt
    rw [hb8] at h1
    omega
  obtain ⟨x1, n1, c1, rfl, hl1, hB1⟩ := open_byS (hval 0 _ _ rfl rfl) h0 hw0
  obtain ⟨x2, n2, c2, rfl, hl2, hB2⟩ := open_byS (hval 1 _ _ rfl rfl) h1 hw1
  refine (fnPaths_any x1 x2 n1 c1 n2 c2 W hB1 hB2 hl1 hl2).mono fun e W' ⟨he, hb⟩ => ?_
  subst he
  obtain ⟨rfl, rfl⟩ := trodVars_none hV
  exact ⟨_, rfl, law_post laidOut (by kernel_rfl) (by kernel_rfl) rfl Try.underlying4 (fun _ _ _ _ => rfl) hW' hb⟩

theorem fnPaths_holds : Rows.FnPathsSaid :=
  OpenClaim.holds_of_wide 3 Try.f3 rfl rfl rfl rfl rfl rfl rfl ⟨rfl, rfl, rfl, rfl, rfl⟩ rfl rfl rfl rfl rfl (by kernel_rfl) Try.func3 (by kernel_rfl)
    (of_decide_eq_true (by kernel_rfl)) (by unfold Func.isWrapper; first | (rw [if_pos (by decide +kernel)]; kernel_rfl) | (rw [if_neg (by decide +kernel)]; exact ⟨rfl, rfl⟩))
    (fun os started H enc _ => fnPaths_lifted os started H enc)
end Go.Proofs.Ytmefkknkahmihaa
