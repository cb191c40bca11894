import Derived.Test.YtjbhmofaackjpaaPjI
import Derived.Test.YtjbhmofaackjpaaPjB
namespace Go.Proofs.Ytjbhmofaackjpaa
open Go.RowKit Go.Shelf
set_option maxRecDepth 100000

set_option maxHeartbeats 16000000 in
theorem fnPassing_of (hae : ∀ x n cap b y cy S, AnyEd b x n cap y cy S) (x1 x2 : Option Addr) (n1 c1 n2 c2 : Nat) (w : World) (hB1 : ByRd w x1 n1) (hB2 : ByRd w x2 n2) (hl1 : n1 ≤ 140737488355327) (hl2 : n2 ≤ 140737488355327) :
    Calls Try.prog 3 #[.slice x1 n1 c1, .slice x2 n2 c2] w fun e w' => e = .returned (.bool true) ∧ Below w.heap.size w w' := by
  have hX1 := Lib.hid hB1.low
  have hX2 := Lib.hid hB2.low
  have hD1 := Lib.hid hB1
  have hD2 := Lib.hid hB2
  have hAE := Lib.hid hae
  clear hB1 hB2 hae
  cases hg : decide (1048576 < n1 + n2) with
  | true =>
    have hm := big_any x1 x2 n1 n2 c1 c2 w (by omega) (by omega)
    rw [hg] at hm
    replace hm := Lib.hid hm
    go_enter Try.func3, Try.ntmps3
    go_wp2_with fail
    refine hm.out.mono ?_
    rintro e wz ⟨rfl, rfl⟩
    go_wp2_with fail
    go_ret
    exact ⟨rfl, (by repeat (first | exact Below.refl _ _ | assumption | refine Below.drew ?_ | refine below_drewN ?_ _ | refine Below.alloc' ?_ _ | (refine Below.setCell ?_ (by first | omega | (simp; done) | (simp; omega) | exact Below.size (by assumption) | exact Nat.le_trans (Below.size (by assumption)) (by simp)) _) | (refine Below.via' ?_ (by assumption)) | (refine Below.alloc ?_ (by first | omega | (simp; done) | (simp; omega) | exact Below.size (by assumption) | exact Nat.le_trans (Below.size (by assumption)) (by simp)) _) | (refine Below.via ?_ (by assumption) (by first | omega | (simp; done) | (simp; omega) | exact Below.size (by assumption) | exact Nat.le_trans (Below.size (by assumption)) (by simp)))))⟩
  | false =>
    have hm := big_any x1 x2 n1 n2 c1 c2 w (by omega) (by omega)
    rw [hg] at hm
    replace hm := Lib.hid hm
    clear hg
    go_enter Try.func3, Try.ntmps3
    go_wp2_with fail
    refine hm.out.mono ?_
    rintro e wz ⟨rfl, rfl⟩
    clear hm
    go_wp2_with fail
    refine (drawFP_of x1 n1 c1 _ (hAE.out x1 n1 c1) (fun h0 c off e => hX1.out h0 c off e) hD1.out).mono ?_
    rintro e w1 ⟨S, z, cz, T, t, ct, rfl, hS1, hl1, -, hT1, hTl1, hb1⟩
    have B1 := Lib.hid hb1
    have S1 := Lib.hid hS1
    have T1 := Lib.hid hT1
    clear hS1 hT1 hb1
    go_wp2_with fail
    refine (iFP_m z t cz ct S T _ S1.out T1.out (eM T) rfl).mono ?_
    rintro e w2 ⟨u2, rfl, ho2, hb2⟩
    have B2 := Lib.hid (Below.via' B1.out hb2)
    have Sb := Lib.hid (S1.out.below hb2)
    have Tb := Lib.hid (T1.out.below hb2)
    obtain ⟨y2, d2, rfl, -, -⟩ := own_form ho2
    have R2 := Lib.hid (Rd.of_own ho2)
    clear ho2 hb2 B1 S1 T1
    go_wp2_with fail
    refine (sFP_m z t cz ct S T _ Sb.out Tb.out (eM T) rfl).mono ?_
    rintro e w3 ⟨u3, rfl, ho3, hb3⟩
    have B3 := Lib.hid (Below.via' B2.out hb3)
    have Sc := Lib.hid (Sb.out.below hb3)
    have Tc := Lib.hid (Tb.out.below hb3)
    obtain ⟨y3, d3, rfl, -, -⟩ := own_form ho3
    have R3 := Lib.hid (Rd.of_own ho3)
    have Q3 := Lib.hid (R2.out.below hb3)
    clear ho3 hb3 B2 Sb Tb R2
    go_wp2_with fail
    refine (iCP_m z t cz ct S T _ Sc.out Tc.out (eM T) rfl).mono ?_
    rintro e w4 ⟨rfl, hb4⟩
    have B4 := Lib.hid (Below.via' B3.out hb4)
    have Sd := Lib.hid (Sc.out.below hb4)
    have Td := Lib.hid (Tc.out.below hb4)
    have R4 := Lib.hid (R3.out.below hb4)
    have Q4 := Lib.hid (Q3.out.below hb4)
    clear hb4 B3 Sc Tc R3 Q3
    go_wp2_with fail
    refine (sCP_m z t cz ct S T _ Sd.out Td.out (eM T) rfl).mono ?_
    rintro e w5 ⟨rfl, hb5⟩
    have B5 := Lib.hid (Below.via' B4.out hb5)
    have Se := Lib.hid (Sd.out.below hb5)
    have Te := Lib.hid (Td.out.below hb5)
    have R5 := Lib.hid (R4.out.below hb5)
    have Q5 := Lib.hid (Q4.out.below hb5)
    clear hb5 B4 Sd Td R4 Q4
    have hMl : (eIf (fpB S (eM T)) (fpL S (eM T))).length ≤ 7 := eIf_len (fun _ => Nat.le_trans (fp_len _) hl1)
    obtain ⟨M1, hM1⟩ : ∃ M1, M1 = eIf (fpB S (eM T)) (fpL S (eM T)) := ⟨_, rfl⟩
    rw [← hM1] at R5 Q5 hMl ⊢
    cases hc : cpB S (eM T)
    · have hf := fpB_no hc
      rw [hf]
      rw [nIf_f rfl]
      replace hM1 := Lib.hid hM1
      replace hc := Lib.hid hc
      replace hf := Lib.hid hf
      go_wp2_with fail
      refine (sameInts_any y2 y3 d2 d3 M1 _ (by omega) Q5.out R5.out).mono ?_
      rintro e w6 ⟨rfl, hb6⟩
      have B6 := Lib.hid (Below.via' B5.out hb6)
      clear hb6 B5 Se Te R5 Q5
      go_wp2_with fail
      refine (drawFC_of x2 n2 c2 _ (hAE.out x2 n2 c2) (fun h0 c off e => by have := hX2.out h0 c off e; have := B6.out.size; omega) (hD2.out.below B6.out)).mono ?_
      rintro e w21 ⟨S2, z2, cz2, T2, t2, ct2, D, d, cd, rfl, hS2, hl2, -, hT2, hTl2, hDi, hDl, hb21⟩
      have B21 := Lib.hid (Below.via' B6.out hb21)
      have Sa := Lib.hid hS2
      have Ta := Lib.hid hT2
      have Da := Lib.hid hDi
      clear hS2 hT2 hDi hb21
      go_wp2_with fail
      refine (iFC_m z2 t2 d cz2 ct2 cd S2 T2 D _ Sa.out Ta.out Da.out (eM T2) rfl (pM D) rfl).mono ?_
      rintro e w22 ⟨u22, rfl, ho22, hb22⟩
      have B22 := Lib.hid (Below.via' B21.out hb22)
      have Sb := Lib.hid (Sa.out.below hb22)
      have Tb := Lib.hid (Ta.out.below hb22)
      have Db := Lib.hid (Da.out.below hb22)
      obtain ⟨y22, d22, rfl, -, -⟩ := own_form ho22
      have R22 := Lib.hid (Rd.of_own ho22)
      clear ho22 hb22 Sa Ta Da B21
      go_wp2_with fail
      refine (sFC_m z2 t2 d cz2 ct2 cd S2 T2 D _ Sb.out Tb.out Db.out (eM T2) rfl (pM D) rfl).mono ?_
      rintro e w23 ⟨u23, rfl, ho23, hb23⟩
      have B23 := Lib.hid (Below.via' B22.out hb23)
      have Sc := Lib.hid (Sb.out.below hb23)
      have Tc := Lib.hid (Tb.out.below hb23)
      have Dc := Lib.hid (Db.out.below hb23)
      obtain ⟨y23, d23, rfl, -, -⟩ := own_form ho23
      have R23 := Lib.hid (Rd.of_own ho23)
      have Q23 := Lib.hid (R22.out.below hb23)
      clear ho23 hb23 Sb Tb Db B22 R22
      have hq2 : Hid (∀ M : List Int, M = eIf (sldB S2 (eM T2) (pM D)) (fcL (eM T2) (dV (pM D))) → M.length ≤ 46) := fun M hM => by rw [hM]; exact eIf_len (fun _ => by rw [fcL_len, eM_len]; exact hTl2)
      obtain ⟨M2, hM2⟩ : ∃ M2, M2 = eIf (sldB S2 (eM T2) (pM D)) (fcL (eM T2) (dV (pM D))) := ⟨_, rfl⟩
      have hM2l := hq2.out M2 hM2
      rw [← hM2] at R23 Q23 ⊢
      cases hsl : sldB S2 (eM T2) (pM D)
      · replace hM2 := Lib.hid hM2
        replace hsl := Lib.hid hsl
        go_wp2_with fail
        refine (sameInts_any y22 y23 d22 d23 M2 _ (by omega) Q23.out R23.out).mono ?_
        rintro e w24 ⟨rfl, hb24⟩
        have B24 := Lib.hid (Below.via' B23.out hb24)
        clear hb24 B23
        go_wp2_with fail
        go_ret
        exact ⟨rfl, B24.out⟩
      · have hMf := Lib.hid (show M2 = fcL (eM T2) (dV (pM D)) by rw [hM2, hsl]; rfl)
        obtain ⟨gel, gdk⟩ : elB S2 (eM T2) = true ∧ dokB S2 (pM D) = true := by unfold sldB at hsl; rwa [Bool.and_eq_true] at hsl
        have gelh := Lib.hid gel
        have gdkh := Lib.hid gdk
        have hml := (el_get gel).2.1
        have hdl := dokB_len gdk
        rw [pM_len] at hdl
        have hdv : (dV (pM D)).length = D.length := by rw [dV_len, pM_len]
        have hbd := Lib.hid (fun i => fc_bd (M := eM T2) (D := dV (pM D)) hml (by omega) i)
        have hbs := Lib.hid (fun r : Nat => fc_bd (M := eM T2) (D := (dV (pM D)).take r) hml (by rw [List.length_take]; omega) (eM T2).length)
        replace hM2 := Lib.hid hM2
        replace hsl := Lib.hid hsl
        replace hdv := Lib.hid hdv
        clear gel gdk
        go_wp2_with fail
        refine (sameInts_any y22 y23 d22 d23 M2 _ (by omega) Q23.out R23.out).mono ?_
        rintro e w24 ⟨rfl, hb24⟩
        have B24 := Lib.hid (Below.via' B23.out hb24)
        have Sd := Lib.hid (Sc.out.below hb24)
        have Td := Lib.hid (Tc.out.below hb24)
        have Dd := Lib.hid (Dc.out.below hb24)
        have Q24 := Lib.hid (Q23.out.below hb24)
        clear hb24 B23 Sc Tc Dc Q23 R23
        go_wp2_with fail
        go_loopw [24, 136] (fun s c wr => ∃ r : Nat, r ≤ D.length ∧ c = .int .i64 r ∧ s = .int .i64 ((fcL (eM T2) ((dV (pM D)).take r)).sum) ∧ Hid (Below w24.heap.size w24 wr)) (fun _ c _ => D.length - (intOf c).toNat)
        case atStart => exact ⟨0, by omega, rfl, by rw [List.take_zero, sum_zero], Below.refl _ _⟩
        case round =>
          obtain ⟨r, hr, rfl, rfl, hbr⟩ := hrel
          have hrs : 0 ≤ (fcL (eM T2) ((dV (pM D)).take r)).sum ∧ (fcL (eM T2) ((dV (pM D)).take r)).sum ≤ 1600 := by
            have h0 := hbs.out r
            rwa [show (eM T2).length = (fcL (eM T2) ((dV (pM D)).take r)).length by rw [fcL_len], List.take_length] at h0
          obtain ⟨s0, s1⟩ := hrs
          by_cases hlt : r < D.length
          · obtain ⟨bl, off, p, hd, hbl, hPp, ca, cb, cc⟩ := (Dd.out.below hbr.out).2.2.rec hlt
            subst hd
            have hpm := List.mem_of_getElem? hPp
            have hV := Lib.hid (((Dd.out.below hbr.out).2.1 p hpm).2.2)
            have hfit := Lib.hid (rokB_get (dokB_mem gdkh.out (List.mem_of_getElem? (pM_at hPp)))).2.2.2.2
            have hsf : Hid (slfB S2 (eM T2) p.L = true) := slf_yes gelh.out hfit.out
            have hnx := Lib.hid (sum_next (M := eM T2) (dV_at hPp))
            have hfl := feL_len (eM T2) p.L
            have hlt' : (r : Int) < (D.length : Int) := by omega
            have hr0 : (0 : Int) ≤ (r : Int) := by omega
            have Bn : Below wr.heap.size wr (wr.alloc (.cells #[.int .i64 p.a, .int .i64 p.h, .slice p.x p.L.length p.c] 40)) := (Below.refl _ _).alloc (Nat.le_refl _) _
            have Bw := Lib.hid (Below.via' hbr.out Bn)
            have hfd := Lib.hid (iFD_m z2 t2 p.x cz2 ct2 p.c S2 T2 p.L _ (Sd.out.below Bw.out) (Td.out.below Bw.out) (hV.out.below Bn) (eM T2) rfl)
            have hbx := RB.new wr p.a p.h p.x p.L.length p.c 40
            obtain ⟨xa, xb, xc, xd⟩ := hbx
            rw [hsf.out, eIf_t rfl] at hfd
            clear hPp hpm Bn
            go_wp2_with fail
            refine hfd.out.mono ?_
            rintro e w25 ⟨u25, rfl, ho25, hb25⟩
            obtain ⟨y25, d25, rfl, -, -⟩ := own_form ho25
            have B25 := Lib.hid (Below.via' Bw.out hb25)
            clear ho25 hb25 xa xb xc ca cb cc hfd
            go_wp2_with fail
            go_roundw
            case rel => exact ⟨r + 1, by omega, by go_num, by rw [hnx.out], B25⟩
            case measure => simp [intOf]; omega
          · have hij : r = D.length := by omega
            subst hij
            have hfin : Hid ((fcL (eM T2) ((dV (pM D)).take D.length)).sum = M2.sum) := by unfold Hid; rw [hMf.out, ← hdv.out, List.take_length]
            have hps := Lib.hid (pSum_any y22 d22 M2 wr (fun i => by rw [hMf.out]; exact hbd.out i) (by omega) (Q24.out.below hbr.out))
            rw [hfin.out]
            go_wp2_with fail
            refine hps.out.mono ?_
            rintro e w26 ⟨rfl, rfl⟩
            go_wp2_with fail
            go_ret
            exact ⟨by simp, Below.via' B24.out hbr.out⟩
    · have hn0 : Hid (nIf true (cpN S (eM T) (cnZ S).toNat : Int) = (cpN S (eM T) (cnZ S).toNat : Int)) := nIf_t rfl
      rw [hn0.out]
      by_cases hz : 0 < cpN S (eM T) (cnZ S).toNat
      · have hf := fpB_yes hc hz
        obtain ⟨hsf, hfe⟩ := fp_ok hf
        have hM1' : Hid (M1 = fpL S (eM T)) := by unfold Hid; rw [hM1, hf]; rfl
        rw [hf]
        have hzi : (!decide (0 < cpN S (eM T) (cnZ S).toNat)) = false := by rw [decide_eq_true hz]; rfl
        have hin : Hid (∀ W, Rd W y2 (iC M1) → IIn W y2 M1) := fun W h => ⟨by omega, fun n hn => by
          rw [hM1'.out] at hn
          obtain ⟨k, _, e, _⟩ := fp_pass hz
          have e2 : fpL S (eM T) = atL S k := e
          rw [e2] at hn
          exact (atL_iin (el_get (by unfold slfB at hsf; rw [Bool.and_eq_true] at hsf; exact hsf.1)).1 (by omega) (Rd.of_own (World.ownsRow_nil W 0 0 0) |> fun _ => (show Rd W y2 (iC (atL S (k : Int))) by rw [← e2, ← hM1'.out]; exact h))).2.1 n hn, h⟩
        have hfd := Lib.hid (fun W (h1 : SIn W z cz S) (h2 : EIn W t T) (h3 : IIn W y2 M1) => iFD_m z t y2 cz ct d2 S T M1 W h1 h2 h3 (eM T) rfl)
        have hsfh : Hid (slfB S (eM T) M1 = true ∧ feL (eM T) M1 = []) := by unfold Hid; rw [hM1'.out]; exact ⟨hsf, hfe⟩
        replace hM1 := Lib.hid hM1
        replace hc := Lib.hid hc
        replace hf := Lib.hid hf
        replace hz := Lib.hid hz
        clear hsf hfe
        go_wp2_with fail
        refine (sameInts_any y2 y3 d2 d3 M1 _ (by omega) Q5.out R5.out).mono ?_
        rintro e w6 ⟨rfl, hb6⟩
        have B6 := Lib.hid (Below.via' B5.out hb6)
        have Sf := Lib.hid (Se.out.below hb6)
        have Tf := Lib.hid (Te.out.below hb6)
        have Q6 := Lib.hid (Q5.out.below hb6)
        clear hb6 B5 Se Te R5 Q5
        go_wp2_with fail
        refine (hfd.out _ Sf.out Tf.out (hin.out _ Q6.out)).mono ?_
        rintro e w7 ⟨u7, rfl, ho7, hb7⟩
        rw [hsfh.out.1] at ho7 ⊢
        rw [hsfh.out.2, eIf_t rfl] at ho7
        simp only [List.length_nil] at ho7
        have B7 := Lib.hid (Below.via' B6.out hb7)
        obtain ⟨y7, d7, e7, -, -⟩ := own_form ho7
        subst e7
        clear hb7 B6 Sf Tf Q6 ho7 hfd hin
        go_wp2_with fail
        refine (drawFC_of x2 n2 c2 _ (hAE.out x2 n2 c2) (fun h0 c off e => by have := hX2.out h0 c off e; have := B7.out.size; omega) (hD2.out.below B7.out)).mono ?_
        rintro e w21 ⟨S2, z2, cz2, T2, t2, ct2, D, d, cd, rfl, hS2, hl2, -, hT2, hTl2, hDi, hDl, hb21⟩
        have B21 := Lib.hid (Below.via' B7.out hb21)
        have Sa := Lib.hid hS2
        have Ta := Lib.hid hT2
        have Da := Lib.hid hDi
        clear hS2 hT2 hDi hb21
        go_wp2_with fail
        refine (iFC_m z2 t2 d cz2 ct2 cd S2 T2 D _ Sa.out Ta.out Da.out (eM T2) rfl (pM D) rfl).mono ?_
        rintro e w22 ⟨u22, rfl, ho22, hb22⟩
        have B22 := Lib.hid (Below.via' B21.out hb22)
        have Sb := Lib.hid (Sa.out.below hb22)
        have Tb := Lib.hid (Ta.out.below hb22)
        have Db := Lib.hid (Da.out.below hb22)
        obtain ⟨y22, d22, rfl, -, -⟩ := own_form ho22
        have R22 := Lib.hid (Rd.of_own ho22)
        clear ho22 hb22 Sa Ta Da B21
        go_wp2_with fail
        refine (sFC_m z2 t2 d cz2 ct2 cd S2 T2 D _ Sb.out Tb.out Db.out (eM T2) rfl (pM D) rfl).mono ?_
        rintro e w23 ⟨u23, rfl, ho23, hb23⟩
        have B23 := Lib.hid (Below.via' B22.out hb23)
        have Sc := Lib.hid (Sb.out.below hb23)
        have Tc := Lib.hid (Tb.out.below hb23)
        have Dc := Lib.hid (Db.out.below hb23)
        obtain ⟨y23, d23, rfl, -, -⟩ := own_form ho23
        have R23 := Lib.hid (Rd.of_own ho23)
        have Q23 := Lib.hid (R22.out.below hb23)
        clear ho23 hb23 Sb Tb Db B22 R22
        have hq2 : Hid (∀ M : List Int, M = eIf (sldB S2 (eM T2) (pM D)) (fcL (eM T2) (dV (pM D))) → M.length ≤ 46) := fun M hM => by rw [hM]; exact eIf_len (fun _ => by rw [fcL_len, eM_len]; exact hTl2)
        obtain ⟨M2, hM2⟩ : ∃ M2, M2 = eIf (sldB S2 (eM T2) (pM D)) (fcL (eM T2) (dV (pM D))) := ⟨_, rfl⟩
        have hM2l := hq2.out M2 hM2
        rw [← hM2] at R23 Q23 ⊢
        cases hsl : sldB S2 (eM T2) (pM D)
        · replace hM2 := Lib.hid hM2
          replace hsl := Lib.hid hsl
          go_wp2_with fail
          refine (sameInts_any y22 y23 d22 d23 M2 _ (by omega) Q23.out R23.out).mono ?_
          rintro e w24 ⟨rfl, hb24⟩
          have B24 := Lib.hid (Below.via' B23.out hb24)
          clear hb24 B23
          go_wp2_with fail
          go_ret
          exact ⟨rfl, B24.out⟩
        · have hMf := Lib.hid (show M2 = fcL (eM T2) (dV (pM D)) by rw [hM2, hsl]; rfl)
          obtain ⟨gel, gdk⟩ : elB S2 (eM T2) = true ∧ dokB S2 (pM D) = true := by unfold sldB at hsl; rwa [Bool.and_eq_true] at hsl
          have gelh := Lib.hid gel
          have gdkh := Lib.hid gdk
          have hml := (el_get gel).2.1
          have hdl := dokB_len gdk
          rw [pM_len] at hdl
          have hdv : (dV (pM D)).length = D.length := by rw [dV_len, pM_len]
          have hbd := Lib.hid (fun i => fc_bd (M := eM T2) (D := dV (pM D)) hml (by omega) i)
          have hbs := Lib.hid (fun r : Nat => fc_bd (M := eM T2) (D := (dV (pM D)).take r) hml (by rw [List.length_take]; omega) (eM T2).length)
          replace hM2 := Lib.hid hM2
          replace hsl := Lib.hid hsl
          replace hdv := Lib.hid hdv
          clear gel gdk
          go_wp2_with fail
          refine (sameInts_any y22 y23 d22 d23 M2 _ (by omega) Q23.out R23.out).mono ?_
          rintro e w24 ⟨rfl, hb24⟩
          have B24 := Lib.hid (Below.via' B23.out hb24)
          have Sd := Lib.hid (Sc.out.below hb24)
          have Td := Lib.hid (Tc.out.below hb24)
          have Dd := Lib.hid (Dc.out.below hb24)
          have Q24 := Lib.hid (Q23.out.below hb24)
          clear hb24 B23 Sc Tc Dc Q23 R23
          go_wp2_with fail
          go_loopw [24, 136] (fun s c wr => ∃ r : Nat, r ≤ D.length ∧ c = .int .i64 r ∧ s = .int .i64 ((fcL (eM T2) ((dV (pM D)).take r)).sum) ∧ Hid (Below w24.heap.size w24 wr)) (fun _ c _ => D.length - (intOf c).toNat)
          case atStart => exact ⟨0, by omega, rfl, by rw [List.take_zero, sum_zero], Below.refl _ _⟩
          case round =>
            obtain ⟨r, hr, rfl, rfl, hbr⟩ := hrel
            have hrs : 0 ≤ (fcL (eM T2) ((dV (pM D)).take r)).sum ∧ (fcL (eM T2) ((dV (pM D)).take r)).sum ≤ 1600 := by
              have h0 := hbs.out r
              rwa [show (eM T2).length = (fcL (eM T2) ((dV (pM D)).take r)).length by rw [fcL_len], List.take_length] at h0
            obtain ⟨s0, s1⟩ := hrs
            by_cases hlt : r < D.length
            · obtain ⟨bl, off, p, hd, hbl, hPp, ca, cb, cc⟩ := (Dd.out.below hbr.out).2.2.rec hlt
              subst hd
              have hpm := List.mem_of_getElem? hPp
              have hV := Lib.hid (((Dd.out.below hbr.out).2.1 p hpm).2.2)
              have hfit := Lib.hid (rokB_get (dokB_mem gdkh.out (List.mem_of_getElem? (pM_at hPp)))).2.2.2.2
              have hsf : Hid (slfB S2 (eM T2) p.L = true) := slf_yes gelh.out hfit.out
              have hnx := Lib.hid (sum_next (M := eM T2) (dV_at hPp))
              have hfl := feL_len (eM T2) p.L
              have hlt' : (r : Int) < (D.length : Int) := by omega
              have hr0 : (0 : Int) ≤ (r : Int) := by omega
              have Bn : Below wr.heap.size wr (wr.alloc (.cells #[.int .i64 p.a, .int .i64 p.h, .slice p.x p.L.length p.c] 40)) := (Below.refl _ _).alloc (Nat.le_refl _) _
              have Bw := Lib.hid (Below.via' hbr.out Bn)
              have hfd := Lib.hid (iFD_m z2 t2 p.x cz2 ct2 p.c S2 T2 p.L _ (Sd.out.below Bw.out) (Td.out.below Bw.out) (hV.out.below Bn) (eM T2) rfl)
              have hbx := RB.new wr p.a p.h p.x p.L.length p.c 40
              obtain ⟨xa, xb, xc, xd⟩ := hbx
              rw [hsf.out, eIf_t rfl] at hfd
              clear hPp hpm Bn
              go_wp2_with fail
              refine hfd.out.mono ?_
              rintro e w25 ⟨u25, rfl, ho25, hb25⟩
              obtain ⟨y25, d25, rfl, -, -⟩ := own_form ho25
              have B25 := Lib.hid (Below.via' Bw.out hb25)
              clear ho25 hb25 xa xb xc ca cb cc hfd
              go_wp2_with fail
              go_roundw
              case rel => exact ⟨r + 1, by omega, by go_num, by rw [hnx.out], B25⟩
              case measure => simp [intOf]; omega
            · have hij : r = D.length := by omega
              subst hij
              have hfin : Hid ((fcL (eM T2) ((dV (pM D)).take D.length)).sum = M2.sum) := by unfold Hid; rw [hMf.out, ← hdv.out, List.take_length]
              have hps := Lib.hid (pSum_any y22 d22 M2 wr (fun i => by rw [hMf.out]; exact hbd.out i) (by omega) (Q24.out.below hbr.out))
              rw [hfin.out]
              go_wp2_with fail
              refine hps.out.mono ?_
              rintro e w26 ⟨rfl, rfl⟩
              go_wp2_with fail
              go_ret
              exact ⟨by simp, Below.via' B24.out hbr.out⟩
      · have hz0 : cpN S (eM T) (cnZ S).toNat = 0 := by omega
        have hf := fpB_zero (M := eM T) hz0
        rw [hf]
        have hzi : ¬ 0 < cpN S (eM T) (cnZ S).toNat := hz
        have hzj : decide (0 < cpN S (eM T) (cnZ S).toNat) = false := decide_eq_false hz
        replace hM1 := Lib.hid hM1
        replace hc := Lib.hid hc
        replace hf := Lib.hid hf
        replace hz0 := Lib.hid hz0
        replace hz := Lib.hid hz
        go_wp2_with fail
        refine (sameInts_any y2 y3 d2 d3 M1 _ (by omega) Q5.out R5.out).mono ?_
        rintro e w6 ⟨rfl, hb6⟩
        have B6 := Lib.hid (Below.via' B5.out hb6)
        clear hb6 B5 Se Te R5 Q5
        go_wp2_with fail
        refine (drawFC_of x2 n2 c2 _ (hAE.out x2 n2 c2) (fun h0 c off e => by have := hX2.out h0 c off e; have := B6.out.size; omega) (hD2.out.below B6.out)).mono ?_
        rintro e w21 ⟨S2, z2, cz2, T2, t2, ct2, D, d, cd, rfl, hS2, hl2, -, hT2, hTl2, hDi, hDl, hb21⟩
        have B21 := Lib.hid (Below.via' B6.out hb21)
        have Sa := Lib.hid hS2
        have Ta := Lib.hid hT2
        have Da := Lib.hid hDi
        clear hS2 hT2 hDi hb21
        go_wp2_with fail
        refine (iFC_m z2 t2 d cz2 ct2 cd S2 T2 D _ Sa.out Ta.out Da.out (eM T2) rfl (pM D) rfl).mono ?_
        rintro e w22 ⟨u22, rfl, ho22, hb22⟩
        have B22 := Lib.hid (Below.via' B21.out hb22)
        have Sb := Lib.hid (Sa.out.below hb22)
        have Tb := Lib.hid (Ta.out.below hb22)
        have Db := Lib.hid (Da.out.below hb22)
        obtain ⟨y22, d22, rfl, -, -⟩ := own_form ho22
        have R22 := Lib.hid (Rd.of_own ho22)
        clear ho22 hb22 Sa Ta Da B21
        go_wp2_with fail
        refine (sFC_m z2 t2 d cz2 ct2 cd S2 T2 D _ Sb.out Tb.out Db.out (eM T2) rfl (pM D) rfl).mono ?_
        rintro e w23 ⟨u23, rfl, ho23, hb23⟩
        have B23 := Lib.hid (Below.via' B22.out hb23)
        have Sc := Lib.hid (Sb.out.below hb23)
        have Tc := Lib.hid (Tb.out.below hb23)
        have Dc := Lib.hid (Db.out.below hb23)
        obtain ⟨y23, d23, rfl, -, -⟩ := own_form ho23
        have R23 := Lib.hid (Rd.of_own ho23)
        have Q23 := Lib.hid (R22.out.below hb23)
        clear ho23 hb23 Sb Tb Db B22 R22
        have hq2 : Hid (∀ M : List Int, M = eIf (sldB S2 (eM T2) (pM D)) (fcL (eM T2) (dV (pM D))) → M.length ≤ 46) := fun M hM => by rw [hM]; exact eIf_len (fun _ => by rw [fcL_len, eM_len]; exact hTl2)
        obtain ⟨M2, hM2⟩ : ∃ M2, M2 = eIf (sldB S2 (eM T2) (pM D)) (fcL (eM T2) (dV (pM D))) := ⟨_, rfl⟩
        have hM2l := hq2.out M2 hM2
        rw [← hM2] at R23 Q23 ⊢
        cases hsl : sldB S2 (eM T2) (pM D)
        · replace hM2 := Lib.hid hM2
          replace hsl := Lib.hid hsl
          go_wp2_with fail
          refine (sameInts_any y22 y23 d22 d23 M2 _ (by omega) Q23.out R23.out).mono ?_
          rintro e w24 ⟨rfl, hb24⟩
          have B24 := Lib.hid (Below.via' B23.out hb24)
          clear hb24 B23
          go_wp2_with fail
          go_ret
          exact ⟨rfl, B24.out⟩
        · have hMf := Lib.hid (show M2 = fcL (eM T2) (dV (pM D)) by rw [hM2, hsl]; rfl)
          obtain ⟨gel, gdk⟩ : elB S2 (eM T2) = true ∧ dokB S2 (pM D) = true := by unfold sldB at hsl; rwa [Bool.and_eq_true] at hsl
          have gelh := Lib.hid gel
          have gdkh := Lib.hid gdk
          have hml := (el_get gel).2.1
          have hdl := dokB_len gdk
          rw [pM_len] at hdl
          have hdv : (dV (pM D)).length = D.length := by rw [dV_len, pM_len]
          have hbd := Lib.hid (fun i => fc_bd (M := eM T2) (D := dV (pM D)) hml (by omega) i)
          have hbs := Lib.hid (fun r : Nat => fc_bd (M := eM T2) (D := (dV (pM D)).take r) hml (by rw [List.length_take]; omega) (eM T2).length)
          replace hM2 := Lib.hid hM2
          replace hsl := Lib.hid hsl
          replace hdv := Lib.hid hdv
          clear gel gdk
          go_wp2_with fail
          refine (sameInts_any y22 y23 d22 d23 M2 _ (by omega) Q23.out R23.out).mono ?_
          rintro e w24 ⟨rfl, hb24⟩
          have B24 := Lib.hid (Below.via' B23.out hb24)
          have Sd := Lib.hid (Sc.out.below hb24)
          have Td := Lib.hid (Tc.out.below hb24)
          have Dd := Lib.hid (Dc.out.below hb24)
          have Q24 := Lib.hid (Q23.out.below hb24)
          clear hb24 B23 Sc Tc Dc Q23 R23
          go_wp2_with fail
          go_loopw [24, 136] (fun s c wr => ∃ r : Nat, r ≤ D.length ∧ c = .int .i64 r ∧ s = .int .i64 ((fcL (eM T2) ((dV (pM D)).take r)).sum) ∧ Hid (Below w24.heap.size w24 wr)) (fun _ c _ => D.length - (intOf c).toNat)
          case atStart => exact ⟨0, by omega, rfl, by rw [List.take_zero, sum_zero], Below.refl _ _⟩
          case round =>
            obtain ⟨r, hr, rfl, rfl, hbr⟩ := hrel
            have hrs : 0 ≤ (fcL (eM T2) ((dV (pM D)).take r)).sum ∧ (fcL (eM T2) ((dV (pM D)).take r)).sum ≤ 1600 := by
              have h0 := hbs.out r
              rwa [show (eM T2).length = (fcL (eM T2) ((dV (pM D)).take r)).length by rw [fcL_len], List.take_length] at h0
            obtain ⟨s0, s1⟩ := hrs
            by_cases hlt : r < D.length
            · obtain ⟨bl, off, p, hd, hbl, hPp, ca, cb, cc⟩ := (Dd.out.below hbr.out).2.2.rec hlt
              subst hd
              have hpm := List.mem_of_getElem? hPp
              have hV := Lib.hid (((Dd.out.below hbr.out).2.1 p hpm).2.2)
              have hfit := Lib.hid (rokB_get (dokB_mem gdkh.out (List.mem_of_getElem? (pM_at hPp)))).2.2.2.2
              have hsf : Hid (slfB S2 (eM T2) p.L = true) := slf_yes gelh.out hfit.out
              have hnx := Lib.hid (sum_next (M := eM T2) (dV_at hPp))
              have hfl := feL_len (eM T2) p.L
              have hlt' : (r : Int) < (D.length : Int) := by omega
              have hr0 : (0 : Int) ≤ (r : Int) := by omega
              have Bn : Below wr.heap.size wr (wr.alloc (.cells #[.int .i64 p.a, .int .i64 p.h, .slice p.x p.L.length p.c] 40)) := (Below.refl _ _).alloc (Nat.le_refl _) _
              have Bw := Lib.hid (Below.via' hbr.out Bn)
              have hfd := Lib.hid (iFD_m z2 t2 p.x cz2 ct2 p.c S2 T2 p.L _ (Sd.out.below Bw.out) (Td.out.below Bw.out) (hV.out.below Bn) (eM T2) rfl)
              have hbx := RB.new wr p.a p.h p.x p.L.length p.c 40
              obtain ⟨xa, xb, xc, xd⟩ := hbx
              rw [hsf.out, eIf_t rfl] at hfd
              clear hPp hpm Bn
              go_wp2_with fail
              refine hfd.out.mono ?_
              rintro e w25 ⟨u25, rfl, ho25, hb25⟩
              obtain ⟨y25, d25, rfl, -, -⟩ := own_form ho25
              have B25 := Lib.hid (Below.via' Bw.out hb25)
              clear ho25 hb25 xa xb xc ca cb cc hfd
              go_wp2_with fail
              go_roundw
              case rel => exact ⟨r + 1, by omega, by go_num, by rw [hnx.out], B25⟩
              case measure => simp [intOf]; omega
            · have hij : r = D.length := by omega
              subst hij
              have hfin : Hid ((fcL (eM T2) ((dV (pM D)).take D.length)).sum = M2.sum) := by unfold Hid; rw [hMf.out, ← hdv.out, List.take_length]
              have hps := Lib.hid (pSum_any y22 d22 M2 wr (fun i => by rw [hMf.out]; exact hbd.out i) (by omega) (Q24.out.below hbr.out))
              rw [hfin.out]
              go_wp2_with fail
              refine hps.out.mono ?_
              rintro e w26 ⟨rfl, rfl⟩
              go_wp2_with fail
              go_ret
              exact ⟨by simp, Below.via' B24.out hbr.out⟩
end Go.Proofs.Ytjbhmofaackjpaa
