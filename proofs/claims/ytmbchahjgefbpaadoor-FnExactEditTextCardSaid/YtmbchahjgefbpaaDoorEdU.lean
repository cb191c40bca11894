/-
  The walks of chapter 5: texts of edits; the program's.
-/
import Derived.Test.YtmbchahjgefbpaaDoorEdT
import Derived.Test.YtmbchahjgefbpaaDoorEdW
import Derived.Test.YtmbchahjgefbpaaDoorTxt
import Derived.Test.YtmbchahjgefbpaaDoorShelf
import Derived.Test.YtmbchahjgefbpaaDoorStp
import Derived.Deep.RegionLaw
namespace Go.Proofs.YtmbchahjgefbpaaDoor
open Go.RowKit
set_option maxRecDepth 100000

theorem itoa_E (n : Int) (w : World) (h0 : 0 ≤ n) (h1 : n < 100) :
    Calls Tryd.prog 45 #[.int .i64 n] w fun e w' => e = .returned (.string (numZ n)) ∧ w' = w := by
  have := Tryd.strconv_Itoa_small n.toNat (by omega) w
  rw [show ((n.toNat : Nat) : Int) = n by omega] at this
  exact this
theorem join_S (bk cp : Nat) (b : UInt8) (L : List ByteArray) (w : World) (h1 : 1 ≤ L.length) (h2 : L.length ≤ 1000) (hc : L.length ≤ cp) (hs : (jnS b L).size ≤ 10000000) (hr : Rd w (some ⟨bk, 0, none⟩) (tC L)) :
    Calls Tryd.prog 28 #[.slice (some ⟨bk, 0, none⟩) L.length cp, .string ⟨#[b]⟩] w fun e w' => e = .returned (.string (jnS b L)) ∧ Below w.heap.size w w' := by
  rcases hr with h | ⟨g, off, e, hb, hcl⟩
  · have := congrArg List.length h
    rw [tC_len, List.length_nil] at this
    omega
  injection e with e
  injection e with e1 e2
  subst e1 e2
  have hj := Tryd.strings_Join bk 0 cp L ⟨#[b]⟩ w (fun j t hj => hcl j _ (tC_at hj)) hb (by omega) (by omega) (by
    have hz : (jnS b L).size = (Lib.join (L.map (·.data.toList)) (⟨#[b]⟩ : ByteArray).data.toList).length := List.size_toArray ..
    omega)
  exact hj

set_option maxHeartbeats 2000000 in
theorem setText_any (nm : ByteArray) (lv x : Int) (w : World) (h : 2 ≤ lv ∧ lv ≤ 8) (h0 : 1 ≤ x) (h1 : x ≤ flZ lv) :
    Calls Tryd.prog 27 #[.agg #[.string nm, .int .i64 lv], .int .i64 x] w fun e w' => e = .returned (.string (setT x)) ∧ Below w.heap.size w w' := by
  obtain ⟨i0, hii, hz0, hz1, hz2⟩ := info_parts Tryd.infoStr
  have hf := flZ_bd h
  have hln := lvsL_len x
  have hl1 := lvs_ne h0 (by omega)
  have hss := setT_size x
  have hbb : i0.bytes * (lvsL x).length ≤ 281474976710656 := by rw [hz2]; omega
  have hmm : (lvsL x).length ≤ maxLen := by unfold maxLen; omega
  go_enter Tryd.func27, Tryd.ntmps27
  go_wp2_with fail
  refine (levelsIn_any _ _ _ _ h h0 h1).mono ?_
  rintro e w2 ⟨u2, rfl, ho2, hb2⟩
  obtain ⟨x2, n2, rfl, -, -⟩ := (OwR.of ho2).form
  have A2 := Lib.hid (Rd.of_own ho2)
  have B2 : Below w.heap.size w w2 := (by repeat (first | exact Below.refl _ _ | assumption | refine Below.drew ?_ | refine below_drewN ?_ _ | refine Below.alloc' ?_ _ | (refine Below.setCell ?_ (by first | omega | (simp; done) | (simp; omega) | exact Below.size (by assumption) | exact Nat.le_trans (Below.size (by assumption)) (by simp)) _) | (refine Below.via' ?_ (by assumption)) | (refine Below.alloc ?_ (by first | omega | (simp; done) | (simp; omega) | exact Below.size (by assumption) | exact Nat.le_trans (Below.size (by assumption)) (by simp)) _) | (refine Below.via ?_ (by assumption) (by first | omega | (simp; done) | (simp; omega) | exact Below.size (by assumption) | exact Nat.le_trans (Below.size (by assumption)) (by simp)))))
  clear ho2 hb2
  go_wp2_with (at_make; go_loud (refine wpList_make_full _ rfl _ _ 54 rfl w2.heap.size 9 i0 (.string ⟨#[]⟩) 1 Tryd.underlying54 hii hz0 hz1 .i64 .i64 _ _ (lvsL x).length rfl rfl rfl rfl hbb hmm (Nat.le_refl _) (fun w3 hown hgrow => ?_)))
  have hb3 : Below w2.heap.size w2 w3 := (Below.refl _ _).grown hgrow (Nat.le_refl _) (by intro k hk; cases hk)
  clear hgrow hii hz0 hz1 hz2 hbb hmm
  go_loopw [17] (fun q wr => ∃ (n : Nat) (xs : List Value), n ≤ (lvsL x).length ∧ q = .int .i64 n ∧ wr.ownsRow w2.heap.size 9 1 (.slice (some ⟨w2.heap.size, 0, none⟩) (lvsL x).length (lvsL x).length) (lvsL x).length xs ∧ Hid (∀ j, j < n → xs[j]? = (tC ((lvsL x).map numZ))[j]?) ∧ Below w2.heap.size w2 wr) (fun q _ => (lvsL x).length - (intOf q).toNat)
  case atStart => exact ⟨0, _, by omega, by go_num, hown, (fun j hj => absurd hj (by omega)), hb3⟩
  case round =>
    clear hown hb3
    obtain ⟨n, xs, hn, rfl, hown, hdone, hb⟩ := hrel
    by_cases hlt : n < (lvsL x).length
    · obtain ⟨bl, off, v, hx2, hbl, hA, hc0⟩ := (A2.out.below hb).int hlt
      have hv := lvs_i64 x v (List.mem_of_getElem? hA)
      have hlt' : (n : Int) < ((lvsL x).length : Int) := by omega
      have hn0 : (0 : Int) ≤ (n : Int) := by omega
      obtain ⟨u, hu, k0⟩ := own_cell hown (j := n) (by omega)
      have k2 := hown.frozenAt n
      have k4 := (own_lt hown).2
      have hst := Lib.hid (hown.stored n (.string (numZ v)))
      have hlen : Hid (xs.length = (lvsL x).length) := by have := hown.1; unfold Hid; omega
      have hx2h := Lib.hid hx2
      replace hA := Lib.hid hA
      replace hu := Lib.hid hu
      clear hown hx2
      rw [hx2h.out]
      go_wp2_with fail
      refine (itoa_E v _ (by omega) (by omega)).mono ?_
      rintro e w5 ⟨rfl, rfl⟩
      go_wp2
      go_roundw
      case rel =>
        refine ⟨n + 1, _, by omega, by go_num, hst.out.1, ?_, (by repeat (first | exact Below.refl _ _ | assumption | refine Below.drew ?_ | refine below_drewN ?_ _ | refine Below.alloc' ?_ _ | (refine Below.setCell ?_ (by first | omega | (simp; done) | (simp; omega) | exact Below.size (by assumption) | exact Nat.le_trans (Below.size (by assumption)) (by simp)) _) | (refine Below.via' ?_ (by assumption)) | (refine Below.alloc ?_ (by first | omega | (simp; done) | (simp; omega) | exact Below.size (by assumption) | exact Nat.le_trans (Below.size (by assumption)) (by simp)) _) | (refine Below.via ?_ (by assumption) (by first | omega | (simp; done) | (simp; omega) | exact Below.size (by assumption) | exact Nat.le_trans (Below.size (by assumption)) (by simp)))))⟩
        intro j hj
        rw [List.getElem?_set]
        split
        · subst_vars
          rw [if_pos (by rw [hlen.out]; omega)]
          unfold tC
          rw [List.getElem?_map, List.getElem?_map, hA.out]
          rfl
        · exact hdone.out j (by omega)
      case measure => simp [intOf]; omega
    · have hij : n = (lvsL x).length := by omega
      subst hij
      have hxs : xs = tC ((lvsL x).map numZ) := by
        have hlen : xs.length = (lvsL x).length := by rw [hown.1]; omega
        apply List.ext_getElem?
        intro j
        rcases Nat.lt_or_ge j (lvsL x).length with hj | hj
        · exact hdone.out j hj
        · rw [List.getElem?_eq_none (by omega), List.getElem?_eq_none (by rw [tC_len, List.length_map]; omega)]
      subst hxs
      have hrd := Lib.hid (Rd.of_own hown)
      have hj := join_S w2.heap.size (lvsL x).length 44 ((lvsL x).map numZ) wr (by rw [List.length_map]; exact hl1) (by rw [List.length_map]; omega) (by rw [List.length_map]; exact Nat.le_refl _) (by have : (jnS 44 ((lvsL x).map numZ)).size ≤ 16 := hss; omega) hrd.out
      rw [List.length_map] at hj
      have hjh := Lib.hid hj
      clear hdone hown hj
      go_wp2_with fail
      refine hjh.out.mono ?_
      rintro e w6 ⟨rfl, hb6⟩
      go_wp2
      go_ret
      exact ⟨rfl, (by repeat (first | exact Below.refl _ _ | assumption | refine Below.drew ?_ | refine below_drewN ?_ _ | refine Below.alloc' ?_ _ | (refine Below.setCell ?_ (by first | omega | (simp; done) | (simp; omega) | exact Below.size (by assumption) | exact Nat.le_trans (Below.size (by assumption)) (by simp)) _) | (refine Below.via' ?_ (by assumption)) | (refine Below.alloc ?_ (by first | omega | (simp; done) | (simp; omega) | exact Below.size (by assumption) | exact Nat.le_trans (Below.size (by assumption)) (by simp)) _) | (refine Below.via ?_ (by assumption) (by first | omega | (simp; done) | (simp; omega) | exact Below.size (by assumption) | exact Nat.le_trans (Below.size (by assumption)) (by simp)))))⟩

theorem retS_no {S : List (ByteArray × Int)} {E : List Int} {w w' : World} (hb : seB S E = false) (h : Below w.heap.size w w') : Ending.returned (.tuple #[.string ⟨#[]⟩, .bool false]) = .returned (.tuple #[.string (edR S E), .bool (seB S E)]) ∧ Below w.heap.size w w' := by
  rw [edR_no hb, hb]
  exact ⟨rfl, h⟩
theorem retS_yes {S : List (ByteArray × Int)} {E : List Int} {w w' : World} {t : ByteArray} (hb : seB S E = true) (ht : edT S E = t) (h : Below w.heap.size w w') : Ending.returned (.tuple #[.string t, .bool true]) = .returned (.tuple #[.string (edR S E), .bool (seB S E)]) ∧ Below w.heap.size w w' := by
  rw [edR_yes hb, hb, ht]
  exact ⟨rfl, h⟩
theorem name_size {S : List (ByteArray × Int)} (hs : schB S = true) {i : Nat} {nm : ByteArray} {lv : Int} (h : S[i]? = some (nm, lv)) : nm.size ≤ 8 := by
  have hv := schB_va hs (List.mem_of_getElem? h)
  unfold vaB nmB at hv
  simp only [Bool.and_eq_true, decide_eq_true_eq] at hv
  exact hv.1.1.2
theorem below_undrewE {w w' : World} (h : Below w.drew.heap.size w.drew w') : Below w.heap.size w w' := ⟨h.os, h.tape, h.output, h.size, h.block⟩
set_option maxHeartbeats 4000000 in
theorem iET_x (x y : Option Addr) (c1 c2 : Nat) (S : List (ByteArray × Int)) (E : List Int) (w : World) (hS : SIn w x c1 S) (hE : IIn w y E) :
    Calls Tryd.prog 10 #[.slice x S.length c1, .agg #[.slice y E.length c2]] w fun e w' => e = .returned (.tuple #[.string (edR S E), .bool (seB S E)]) ∧ Below w.heap.size w w' := by
  obtain ⟨i0, hii, hz0, hz1, hz2⟩ := info_parts Tryd.infoStr
  have hSh := Lib.hid hS
  have hEh := Lib.hid hE
  have hm := hS.1
  clear hS hE
  have hq := Lib.hid (QB.new w y E.length c2 32)
  go_enter Tryd.func10, Tryd.ntmps10
  go_wp2_with fail
  refine (isSch_x _ _ _ _ (hSh.out.below (by exact (by repeat (first | exact Below.refl _ _ | assumption | refine Below.drew ?_ | refine below_drewN ?_ _ | refine Below.alloc' ?_ _ | (refine Below.setCell ?_ (by first | omega | (simp; done) | (simp; omega) | exact Below.size (by assumption) | exact Nat.le_trans (Below.size (by assumption)) (by simp)) _) | (refine Below.via' ?_ (by assumption)) | (refine Below.alloc ?_ (by first | omega | (simp; done) | (simp; omega) | exact Below.size (by assumption) | exact Nat.le_trans (Below.size (by assumption)) (by simp)) _) | (refine Below.via ?_ (by assumption) (by first | omega | (simp; done) | (simp; omega) | exact Below.size (by assumption) | exact Nat.le_trans (Below.size (by assumption)) (by simp)))))))).mono ?_
  rintro e w1 ⟨rfl, hb1⟩
  have hq1 := Lib.hid (hq.out.below hb1)
  obtain ⟨ka, kb, kc⟩ := hq1.out
  cases hs : schB S
  · have hv := Lib.hid (se_no1 (E := E) hs)
    go_wp2
    go_ret2
    exact retS_no hv.out (by repeat (first | exact Below.refl _ _ | assumption | refine Below.drew ?_ | refine below_drewN ?_ _ | refine Below.alloc' ?_ _ | (refine Below.setCell ?_ (by first | omega | (simp; done) | (simp; omega) | exact Below.size (by assumption) | exact Nat.le_trans (Below.size (by assumption)) (by simp)) _) | (refine Below.via' ?_ (by assumption)) | (refine Below.alloc ?_ (by first | omega | (simp; done) | (simp; omega) | exact Below.size (by assumption) | exact Nat.le_trans (Below.size (by assumption)) (by simp)) _) | (refine Below.via ?_ (by assumption) (by first | omega | (simp; done) | (simp; omega) | exact Below.size (by assumption) | exact Nat.le_trans (Below.size (by assumption)) (by simp)))))
  have hsh := Lib.hid hs
  clear hs
  go_wp2_with fail
  refine (isEditFor_any _ _ _ _ S E _ hsh.out hm (hSh.out.rd.below (by exact (by repeat (first | exact Below.refl _ _ | assumption | refine Below.drew ?_ | refine below_drewN ?_ _ | refine Below.alloc' ?_ _ | (refine Below.setCell ?_ (by first | omega | (simp; done) | (simp; omega) | exact Below.size (by assumption) | exact Nat.le_trans (Below.size (by assumption)) (by simp)) _) | (refine Below.via' ?_ (by assumption)) | (refine Below.alloc ?_ (by first | omega | (simp; done) | (simp; omega) | exact Below.size (by assumption) | exact Nat.le_trans (Below.size (by assumption)) (by simp)) _) | (refine Below.via ?_ (by assumption) (by first | omega | (simp; done) | (simp; omega) | exact Below.size (by assumption) | exact Nat.le_trans (Below.size (by assumption)) (by simp))))))) (hEh.out.below (by exact (by repeat (first | exact Below.refl _ _ | assumption | refine Below.drew ?_ | refine below_drewN ?_ _ | refine Below.alloc' ?_ _ | (refine Below.setCell ?_ (by first | omega | (simp; done) | (simp; omega) | exact Below.size (by assumption) | exact Nat.le_trans (Below.size (by assumption)) (by simp)) _) | (refine Below.via' ?_ (by assumption)) | (refine Below.alloc ?_ (by first | omega | (simp; done) | (simp; omega) | exact Below.size (by assumption) | exact Nat.le_trans (Below.size (by assumption)) (by simp)) _) | (refine Below.via ?_ (by assumption) (by first | omega | (simp; done) | (simp; omega) | exact Below.size (by assumption) | exact Nat.le_trans (Below.size (by assumption)) (by simp)))))))).mono ?_
  rintro e w2 ⟨rfl, hb2⟩
  have hq2 := Lib.hid (hq1.out.below hb2)
  obtain ⟨ka2, kb2, kc2⟩ := hq2.out
  cases he : edB S E
  · have hv := Lib.hid (se_no2 (S := S) he)
    go_wp2
    go_ret2
    exact retS_no hv.out (by repeat (first | exact Below.refl _ _ | assumption | refine Below.drew ?_ | refine below_drewN ?_ _ | refine Below.alloc' ?_ _ | (refine Below.setCell ?_ (by first | omega | (simp; done) | (simp; omega) | exact Below.size (by assumption) | exact Nat.le_trans (Below.size (by assumption)) (by simp)) _) | (refine Below.via' ?_ (by assumption)) | (refine Below.alloc ?_ (by first | omega | (simp; done) | (simp; omega) | exact Below.size (by assumption) | exact Nat.le_trans (Below.size (by assumption)) (by simp)) _) | (refine Below.via ?_ (by assumption) (by first | omega | (simp; done) | (simp; omega) | exact Below.size (by assumption) | exact Nat.le_trans (Below.size (by assumption)) (by simp)))))
  have heh := Lib.hid he
  clear he
  have hv := Lib.hid (se_yes hsh.out heh.out)
  have hlE := Lib.hid (ed_len heh.out)
  have hl6 := (schB_len hsh.out).2
  have hE6 : E.length ≤ 6 := by have := hlE.out; omega
  have B2 : Below w.heap.size w w2 := (by repeat (first | exact Below.refl _ _ | assumption | refine Below.drew ?_ | refine below_drewN ?_ _ | refine Below.alloc' ?_ _ | (refine Below.setCell ?_ (by first | omega | (simp; done) | (simp; omega) | exact Below.size (by assumption) | exact Nat.le_trans (Below.size (by assumption)) (by simp)) _) | (refine Below.via' ?_ (by assumption)) | (refine Below.alloc ?_ (by first | omega | (simp; done) | (simp; omega) | exact Below.size (by assumption) | exact Nat.le_trans (Below.size (by assumption)) (by simp)) _) | (refine Below.via ?_ (by assumption) (by first | omega | (simp; done) | (simp; omega) | exact Below.size (by assumption) | exact Nat.le_trans (Below.size (by assumption)) (by simp)))))
  clear ka kb kc
  go_wp2
  clear ka2 kb2 kc2
  have hs20 : w.heap.size < w2.heap.size := hq2.out.2.2
  go_loopw [6, 20] (fun u c wr => ∃ (i : Nat) (L : List ByteArray), i ≤ S.length ∧ c = .int .i64 i ∧ Hid (L = epU S E i) ∧ L.length ≤ i ∧ wr.ownsRow w2.heap.size 9 1 u L.length (tC L) ∧ QB wr w.heap.size y E.length c2 ∧ Below w.heap.size w wr ∧ w2.heap.size ≤ wr.heap.size) (fun _ c _ => S.length - (intOf c).toNat)
  case atStart => exact ⟨0, [], by omega, rfl, rfl, by simp, World.ownsRow_nil _ _ _ _, hq2.out, B2, Nat.le_refl _⟩
  case round =>
    obtain ⟨i, L, hi, rfl, hL, hsl, hown, hqr, hBr, hszr⟩ := hrel
    have hqrh := Lib.hid hqr
    have hownh := Lib.hid hown
    by_cases hlt : i < S.length
    · obtain ⟨nm, lv, v, hSi, hEi, x1, x2, l1, l2, x3⟩ := ed_at hsh.out heh.out hlt
      obtain ⟨bl, off, nm', lv', rfl, hbl, hSi2, hc0, hc1⟩ := (hSh.out.rd.below hBr).var hlt
      obtain ⟨bl2, off2, v', rfl, hbl2, hEi2, hc2⟩ := (hEh.out.below hBr).2.2.int (i := i) (by have := hlE.out; omega)
      obtain ⟨rfl, rfl⟩ : nm' = nm ∧ lv' = lv := by
        have := Option.some.inj (hSi2.symm.trans hSi)
        injection this with a b
        exact ⟨a, b⟩
      obtain rfl := Option.some.inj (hEi2.symm.trans hEi)
      clear hSi2 hEi2 hown
      obtain ⟨ka, kb, kc⟩ := hqr
      have hiv := iv_at hSi hEi
      have hpa := Lib.hid (paS_at hSi hEi)
      have hns := name_size hsh.out hSi
      replace hSi := Lib.hid hSi
      replace hEi := Lib.hid hEi
      have hlt' : (i : Int) < (S.length : Int) := by omega
      have hlt2 : (i : Int) < (E.length : Int) := by have := hlE.out; omega
      have hi0 : (0 : Int) ≤ (i : Int) := by omega
      by_cases hfl : v' = flZ lv'
      · have hkd : (kdZ lv' v' == 1) = false := by rw [kdZ_all ⟨l1, l2⟩ hfl]; rfl
        have hsel : Hid (epU S E (i + 1) = epU S E i) := epU_no (by rw [hiv]; simp [hfl])
        replace hfl := Lib.hid hfl
        clear hiv
        go_wp2
        go_region_held3 (fun w' => Below ((wr.alloc (.cells #[.string nm', .int .i64 lv'] 49))).heap.size ((wr.alloc (.cells #[.string nm', .int .i64 lv'] 49))) w' ∧ (∀ b o, b < ((wr.alloc (.cells #[.string nm', .int .i64 lv'] 49))).heap.size → w'.cell? ⟨b, o, none⟩ = ((wr.alloc (.cells #[.string nm', .int .i64 lv'] 49))).cell? ⟨b, o, none⟩)) (first | exact keep_of (Below.refl _ _) | ((try go_split_ands); exact keep_of (by repeat (first | exact Below.refl _ _ | assumption | refine Below.drew ?_ | refine below_drewN ?_ _ | refine Below.alloc' ?_ _ | (refine Below.setCell ?_ (by first | omega | (simp; done) | (simp; omega) | exact Below.size (by assumption) | exact Nat.le_trans (Below.size (by assumption)) (by simp)) _) | (refine Below.via' ?_ (by assumption)) | (refine Below.alloc ?_ (by first | omega | (simp; done) | (simp; omega) | exact Below.size (by assumption) | exact Nat.le_trans (Below.size (by assumption)) (by simp)) _) | (refine Below.via ?_ (by assumption) (by first | omega | (simp; done) | (simp; omega) | exact Below.size (by assumption) | exact Nat.le_trans (Below.size (by assumption)) (by simp))))))) ((go_at_call 26; refine (kindOfSet_any _ _ _ _ ⟨l1, l2⟩).mono ?_; rintro e w3 ⟨rfl, hb3⟩)); rename_i hH; obtain ⟨hb3, hcl3⟩ := hH; have hz3 := hb3.size; (try simp at hz3); (try (have hly3 := Nat.lt_of_succ_le hz3)); (try (have hlx3 := Nat.lt_of_succ_lt hly3)); (try (have hlw3 := Nat.lt_of_succ_lt hlx3)); (try (have hle3 := Nat.le_of_lt hly3)); (try (have hya3 : w.heap.size < w3.heap.size := by omega)); (try (have hyb3 : w.heap.size + 1 < w3.heap.size := by omega)); (try (have hyc3 : w.heap.size + 1 + 1 < w3.heap.size := by omega)); (try (have hyd3 : wa.heap.size < w3.heap.size := by omega))
        go_wp2
        have hbw : Below wr.heap.size wr w3 := (by repeat (first | exact Below.refl _ _ | assumption | refine Below.drew ?_ | refine below_drewN ?_ _ | refine Below.alloc' ?_ _ | (refine Below.setCell ?_ (by first | omega | (simp; done) | (simp; omega) | exact Below.size (by assumption) | exact Nat.le_trans (Below.size (by assumption)) (by simp)) _) | (refine Below.via' ?_ (by assumption)) | (refine Below.alloc ?_ (by first | omega | (simp; done) | (simp; omega) | exact Below.size (by assumption) | exact Nat.le_trans (Below.size (by assumption)) (by simp)) _) | (refine Below.via ?_ (by assumption) (by first | omega | (simp; done) | (simp; omega) | exact Below.size (by assumption) | exact Nat.le_trans (Below.size (by assumption)) (by simp)))))
        go_roundw
        case rel => exact ⟨i + 1, L, by omega, by go_num, hL.out.trans hsel.out.symm, by omega, own_below hownh.out hbw, hqrh.out.below hbw, hBr.trans (hbw.mono hBr.size), Nat.le_trans hszr hbw.size⟩
        case measure => simp [intOf]; omega
      · have hkd : (kdZ lv' v' == 1) = true := by rw [kdZ_some ⟨x1, x2⟩ hfl]; rfl
        have hsel : Hid (epU S E (i + 1) = epU S E i ++ [paS S E i]) := epU_yes (by rw [hiv]; simp [hfl])
        replace hfl := Lib.hid hfl
        clear hiv
        have hVb := Lib.hid (Wb.new wr 49 #[.string nm', .int .i64 lv'])
        have hst := setT_size v'
        have k1 : (⟨#[61]⟩ : ByteArray).size = 1 := rfl
        have hs1 : ¬ 9223372036854775807 < nm'.size + (⟨#[61]⟩ : ByteArray).size := by rw [k1]; omega
        have hs2 : ¬ 9223372036854775807 < (nm' ++ ⟨#[61]⟩).size + (setT v').size := by rw [ByteArray.size_append, k1]; omega
        have hs3 : ¬ 9223372036854775807 < nm'.size + 1 := by omega
        have hs4 : ¬ 9223372036854775807 < nm'.size + 1 + (setT v').size := by omega
        clear k1
        go_wp2
        go_region_held3 (fun w' => Below ((wr.alloc (.cells #[.string nm', .int .i64 lv'] 49))).heap.size ((wr.alloc (.cells #[.string nm', .int .i64 lv'] 49))) w' ∧ (∀ b o, b < ((wr.alloc (.cells #[.string nm', .int .i64 lv'] 49))).heap.size → w'.cell? ⟨b, o, none⟩ = ((wr.alloc (.cells #[.string nm', .int .i64 lv'] 49))).cell? ⟨b, o, none⟩)) (first | exact keep_of (Below.refl _ _) | ((try go_split_ands); exact keep_of (by repeat (first | exact Below.refl _ _ | assumption | refine Below.drew ?_ | refine below_drewN ?_ _ | refine Below.alloc' ?_ _ | (refine Below.setCell ?_ (by first | omega | (simp; done) | (simp; omega) | exact Below.size (by assumption) | exact Nat.le_trans (Below.size (by assumption)) (by simp)) _) | (refine Below.via' ?_ (by assumption)) | (refine Below.alloc ?_ (by first | omega | (simp; done) | (simp; omega) | exact Below.size (by assumption) | exact Nat.le_trans (Below.size (by assumption)) (by simp)) _) | (refine Below.via ?_ (by assumption) (by first | omega | (simp; done) | (simp; omega) | exact Below.size (by assumption) | exact Nat.le_trans (Below.size (by assumption)) (by simp))))))) ((go_at_call 26; refine (kindOfSet_any _ _ _ _ ⟨l1, l2⟩).mono ?_; rintro e w3 ⟨rfl, hb3⟩)); rename_i hH; obtain ⟨hb3, hcl3⟩ := hH; have hz3 := hb3.size; (try simp at hz3); (try (have hly3 := Nat.lt_of_succ_le hz3)); (try (have hlx3 := Nat.lt_of_succ_lt hly3)); (try (have hlw3 := Nat.lt_of_succ_lt hlx3)); (try (have hle3 := Nat.le_of_lt hly3)); (try (have hya3 : w.heap.size < w3.heap.size := by omega)); (try (have hyb3 : w.heap.size + 1 < w3.heap.size := by omega)); (try (have hyc3 : w.heap.size + 1 + 1 < w3.heap.size := by omega)); (try (have hyd3 : wa.heap.size < w3.heap.size := by omega))
        have hbw : Below wr.heap.size wr w3 := (by repeat (first | exact Below.refl _ _ | assumption | refine Below.drew ?_ | refine below_drewN ?_ _ | refine Below.alloc' ?_ _ | (refine Below.setCell ?_ (by first | omega | (simp; done) | (simp; omega) | exact Below.size (by assumption) | exact Nat.le_trans (Below.size (by assumption)) (by simp)) _) | (refine Below.via' ?_ (by assumption)) | (refine Below.alloc ?_ (by first | omega | (simp; done) | (simp; omega) | exact Below.size (by assumption) | exact Nat.le_trans (Below.size (by assumption)) (by simp)) _) | (refine Below.via ?_ (by assumption) (by first | omega | (simp; done) | (simp; omega) | exact Below.size (by assumption) | exact Nat.le_trans (Below.size (by assumption)) (by simp)))))
        have ho3 := Lib.hid (own_below hownh.out hbw)
        have hq3 := Lib.hid (hqrh.out.below hbw)
        have V3 := Lib.hid (hVb.out.kept hb3)
        have hBr3 := hBr.trans (hbw.mono hBr.size)
        have hs30 := hbw.size
        have hc3 := (hbw.cell (p := ⟨bl2, off2 + i, none⟩) hbl2).trans hc2
        obtain ⟨ka3, kb3, kc3⟩ := hq3.out
        have r30 : w3.cell? ⟨wr.heap.size, 0, none⟩ = some (.string nm') := (V3.out.read 0).trans rfl
        have r31 : w3.cell? ⟨wr.heap.size, 1, none⟩ = some (.int .i64 lv') := (V3.out.read 1).trans rfl
        have hbl3 : bl2 < w3.heap.size := Nat.lt_of_lt_of_le hbl2 hs30
        have hlow := Lib.hid ho3.out.lt
        clear ka kb kc hc0 hc1 hc2 hb3 hcl3
        go_wp2
        go_region_law (first
          | (go_simp; go_at_call 27; refine (setText_any nm' lv' v' _ ⟨l1, l2⟩ x1 x2).mono ?_; rintro e w4 ⟨rfl, hb4⟩; (have hb4' := below_undrewE hb4); (have O4 := Lib.hid (own_below ho3.out hb4')); (have q4 := Lib.hid (hq3.out.below hb4')); (have V4 := Lib.hid (V3.out.kept hb4')); (obtain ⟨ka4, kb4, kc4⟩ := q4.out); (have r40 : w4.cell? ⟨wr.heap.size, 0, none⟩ = some (.string nm') := (V4.out.read 0).trans rfl); (have r41 : w4.cell? ⟨wr.heap.size, 1, none⟩ = some (.int .i64 lv') := (V4.out.read 1).trans rfl); (have hc4 := (hb4'.cell (p := ⟨bl2, off2 + i, none⟩) hbl3).trans hc3); (have hs40 := hb4'.size); (have hB4 := hBr3.trans (hb4'.mono hBr3.size)))
          | (go_loud (refine step_append_rd _ rfl (.tmp 33) (.tmp 45) 54 rfl w2.heap.size 9 i0 (.string ⟨#[]⟩) 1 16 Tryd.underlying54 hii hz0 hz1 hz2 rfl (by decide) _ L.length (tC L) rfl (O4.out.alloc _) _ 1 1 rfl (Nat.le_refl _) (by intro h; cases h) (tC [nm' ++ ⟨#[61]⟩ ++ setT v']) rfl (Rd.oneS _ _ _) (tC_one _) (by unfold maxLen; omega) (by omega) (by simp; omega) ?_); intro v5 w5 hown5 hgrow5 hwhere5))
        all_goals
          obtain ⟨hb5, -⟩ := append_below hB4 (fun k hk => by have := (O4.out.lt k hk).1; omega) hgrow5 hwhere5
          have hq5 := Lib.hid (q4.out.restE hgrow5 (fun k hk => by have := (O4.out.lt k hk).1; omega))
          have hs5 := hgrow5.size
          have hown6 := Lib.hid (own_eq (n' := (L ++ [nm' ++ ⟨#[61]⟩ ++ setT v']).length) hown5 (by simp) (tC_app _ _).symm)
          clear hgrow5 hwhere5 hown5 ka3 kb3 r30 r31 hc3 ka4 kb4 r40 r41 hc4 hb4 hb4'
          go_wp2
          go_roundw
          case rel => exact ⟨i + 1, L ++ [nm' ++ ⟨#[61]⟩ ++ setT v'], by omega, by go_num, (show L ++ [nm' ++ ⟨#[61]⟩ ++ setT v'] = epU S E (i + 1) by rw [hsel.out, hpa.out, hL.out]; rfl), by simp; omega, hown6.out, hq5.out, hb5, by simp at hs5; omega⟩
          case measure => simp [intOf]; omega
    · have hij : i = S.length := by omega
      subst hij
      obtain rfl : L = epU S E S.length := hL.out
      by_cases h0 : (epU S E S.length).length = 0
      · have hte := Lib.hid (edT_all h0)
        have hz : (((epU S E S.length).length : Int) == 0) = true := by rw [beq_iff_eq]; omega
        obtain ⟨xu, cu, rfl, -, -⟩ := (OwR.of hown).form
        replace h0 := Lib.hid h0
        clear hown hqr
        go_wp2
        go_ret2
        exact retS_yes hv.out hte.out (by repeat (first | exact Below.refl _ _ | assumption | refine Below.drew ?_ | refine below_drewN ?_ _ | refine Below.alloc' ?_ _ | (refine Below.setCell ?_ (by first | omega | (simp; done) | (simp; omega) | exact Below.size (by assumption) | exact Nat.le_trans (Below.size (by assumption)) (by simp)) _) | (refine Below.via' ?_ (by assumption)) | (refine Below.alloc ?_ (by first | omega | (simp; done) | (simp; omega) | exact Below.size (by assumption) | exact Nat.le_trans (Below.size (by assumption)) (by simp)) _) | (refine Below.via ?_ (by assumption) (by first | omega | (simp; done) | (simp; omega) | exact Below.size (by assumption) | exact Nat.le_trans (Below.size (by assumption)) (by simp)))))
      · have hte := Lib.hid (edT_some h0)
        have hz : (((epU S E S.length).length : Int) == 0) = false := by rw [beq_eq_false_iff_ne]; omega
        have hpos : 1 ≤ (epU S E S.length).length := by omega
        obtain ⟨g, cu, rfl⟩ := own_some2 hown hpos
        have hcu : (epU S E S.length).length ≤ cu := by obtain ⟨a, b, e1, e2, -⟩ := (OwR.of hown).form; injection e1 with _ _ e3; omega
        have hjs : (jnS 32 (epU S E S.length)).size ≤ 10000000 := by
          have h1 : (jnS 32 (epU S E S.length)).size ≤ (epU S E S.length).length * 26 := jnS_size (epU_size hsh.out)
          omega
        have hrd := Lib.hid (Rd.of_own hown)
        replace h0 := Lib.hid h0
        clear hown hqr
        go_wp2_with fail
        refine (join_S g cu 32 (epU S E S.length) _ hpos (by omega) hcu hjs hrd.out).mono ?_
        rintro e w6 ⟨rfl, hb6⟩
        go_wp2
        go_ret2
        exact retS_yes hv.out hte.out (by repeat (first | exact Below.refl _ _ | assumption | refine Below.drew ?_ | refine below_drewN ?_ _ | refine Below.alloc' ?_ _ | (refine Below.setCell ?_ (by first | omega | (simp; done) | (simp; omega) | exact Below.size (by assumption) | exact Nat.le_trans (Below.size (by assumption)) (by simp)) _) | (refine Below.via' ?_ (by assumption)) | (refine Below.alloc ?_ (by first | omega | (simp; done) | (simp; omega) | exact Below.size (by assumption) | exact Nat.le_trans (Below.size (by assumption)) (by simp)) _) | (refine Below.via ?_ (by assumption) (by first | omega | (simp; done) | (simp; omega) | exact Below.size (by assumption) | exact Nat.le_trans (Below.size (by assumption)) (by simp)))))
end Go.Proofs.YtmbchahjgefbpaaDoor
