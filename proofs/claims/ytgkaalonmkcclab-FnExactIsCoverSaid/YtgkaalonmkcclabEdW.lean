/-
  The walks of chapter 5: CountFailing, InvolvedIn; the program's and the model's.
-/
import Derived.Test.YtgkaalonmkcclabEdV
namespace Go.Proofs.Ytgkaalonmkcclab
open Go.RowKit
set_option maxRecDepth 100000

theorem retLB_no {L : List Int} {b : Bool} {w w' : World} (hb : b = false) (h : Below w.heap.size w w') : RetLB (eIf b L) b w (.returned (.tuple #[.slice none 0 0, .bool false])) w' := by
  subst hb
  exact ⟨_, rfl, World.ownsRow_nil _ _ _ _, h⟩
theorem retLB_yes {L : List Int} {b : Bool} {w w' : World} {v : Value} (hb : b = true) (ho : w'.ownsRow w.heap.size 3 1 v L.length (iC L)) (h : Below w.heap.size w w') : RetLB (eIf b L) b w (.returned (.tuple #[v, .bool true])) w' := by
  subst hb
  rw [eIf_t rfl]
  exact ⟨_, rfl, ho, h⟩
theorem retN_no {n : Int} {b : Bool} {w w' : World} (hb : b = false) (h : Below w.heap.size w w') : Ending.returned (.tuple #[.int .i64 0, .bool false]) = .returned (.tuple #[.int .i64 (nIf b n), .bool b]) ∧ Below w.heap.size w w' := by
  subst hb
  exact ⟨rfl, h⟩
theorem retN_yes {n m : Int} {b : Bool} {w w' : World} (hb : b = true) (hm : m = n) (h : Below w.heap.size w w') : Ending.returned (.tuple #[.int .i64 m, .bool true]) = .returned (.tuple #[.int .i64 (nIf b n), .bool b]) ∧ Below w.heap.size w w' := by
  subst hb hm
  exact ⟨rfl, h⟩
/-- The list of the involved variables, step by step. -/
def ivUp (S : List (ByteArray × Int)) (E : List Int) (i : Nat) : List Int := pkUp (ivB S E) i
theorem ivUp_len (S : List (ByteArray × Int)) (E : List Int) (i : Nat) : (ivUp S E i).length ≤ i := pkUp_len _ _
set_option maxHeartbeats 1000000 in
theorem involvedIn_any (x y : Option Addr) (c1 c2 : Nat) (S : List (ByteArray × Int)) (E : List Int) (w : World) (hs : schB S = true) (he : edB S E = true) (hS : SIn w x c1 S) (hE : IIn w y E) :
    Calls Try.prog 64 #[.slice x S.length c1, .agg #[.slice y E.length c2]] w (RetL (ivL S E) w) := by
  obtain ⟨i0, hii, hz0, hz1, hz2⟩ := info_parts Try.infoInt
  have hSh := Lib.hid hS
  have hEh := Lib.hid hE
  have hsh := Lib.hid hs
  have heh := Lib.hid he
  have hlE := Lib.hid (ed_len he)
  have hl6 := (schB_len hs).2
  have hE6 : E.length ≤ 6 := by have := hlE.out; omega
  have hq2 := Lib.hid (QB.new w y E.length c2 90)
  clear hS hE hs he
  go_enter Try.func64, Try.ntmps64
  go_wp2
  go_loopw [5, 10] (fun u c wr => ∃ i : Nat, i ≤ S.length ∧ c = .int .i64 i ∧ wr.ownsRow (w.heap.size + 1) 3 1 u (ivUp S E i).length (iC (ivUp S E i)) ∧ QB wr w.heap.size y E.length c2 ∧ Below w.heap.size w wr ∧ w.heap.size + 1 ≤ wr.heap.size) (fun _ c _ => S.length - (intOf c).toNat)
  case atStart => exact ⟨0, by omega, rfl, World.ownsRow_nil _ _ _ _, hq2.out, (by repeat (first | exact Below.refl _ _ | assumption | refine Below.drew ?_ | refine below_drewN ?_ _ | refine Below.alloc' ?_ _ | (refine Below.setCell ?_ (by first | omega | (simp; done) | (simp; omega) | exact Below.size (by assumption) | exact Nat.le_trans (Below.size (by assumption)) (by simp)) _) | (refine Below.via' ?_ (by assumption)) | (refine Below.alloc ?_ (by first | omega | (simp; done) | (simp; omega) | exact Below.size (by assumption) | exact Nat.le_trans (Below.size (by assumption)) (by simp)) _) | (refine Below.via ?_ (by assumption) (by first | omega | (simp; done) | (simp; omega) | exact Below.size (by assumption) | exact Nat.le_trans (Below.size (by assumption)) (by simp))))), by simp⟩
  case round =>
    obtain ⟨i, hi, rfl, hown, hqr, hBr, hszr⟩ := hrel
    have hqrh := Lib.hid hqr
    have hownh := Lib.hid hown
    clear hown
    have hsl := ivUp_len S E i
    by_cases hlt : i < S.length
    · obtain ⟨nm, lv, v, hSi, hEi, x1, x2, l1, l2, x3⟩ := ed_at hsh.out heh.out hlt
      obtain ⟨bl, off, nm', lv', rfl, hbl, hSi2, hc0, hc1⟩ := (hSh.out.rd.below hBr).var hlt
      obtain ⟨bl2, off2, v', rfl, hbl2, hEi2, hc2⟩ := (hEh.out.below hBr).2.2.int (i := i) (by have := hlE.out; omega)
      obtain ⟨rfl, rfl⟩ : nm' = nm ∧ lv' = lv := by
        have := Option.some.inj (hSi2.symm.trans hSi)
        injection this with a b
        exact ⟨a, b⟩
      obtain rfl := Option.some.inj (hEi2.symm.trans hEi)
      clear hSi2 hEi2
      obtain ⟨ka, kb, kc⟩ := hqr
      have hiv := iv_at hSi hEi
      replace hSi := Lib.hid hSi
      replace hEi := Lib.hid hEi
      have hlt' : (i : Int) < (S.length : Int) := by omega
      have hlt2 : (i : Int) < (E.length : Int) := by have := hlE.out; omega
      have hi0 : (0 : Int) ≤ (i : Int) := by omega
      by_cases hfl : v' = flZ lv'
      · have hkd : (kdZ lv' v' == 1) = false := by rw [kdZ_all ⟨l1, l2⟩ hfl]; rfl
        have hsel : Hid (ivUp S E (i + 1) = ivUp S E i) := pkUp_no (by rw [hiv]; simp [hfl])
        replace hfl := Lib.hid hfl
        clear hiv
        go_wp2
        go_region_held3 (fun w' => Below ((wr.alloc (.cells #[.string nm', .int .i64 lv'] 93))).heap.size ((wr.alloc (.cells #[.string nm', .int .i64 lv'] 93))) w' ∧ (∀ b o, b < ((wr.alloc (.cells #[.string nm', .int .i64 lv'] 93))).heap.size → w'.cell? ⟨b, o, none⟩ = ((wr.alloc (.cells #[.string nm', .int .i64 lv'] 93))).cell? ⟨b, o, none⟩)) (first | exact keep_of (Below.refl _ _) | ((try go_split_ands); exact keep_of (by repeat (first | exact Below.refl _ _ | assumption | refine Below.drew ?_ | refine below_drewN ?_ _ | refine Below.alloc' ?_ _ | (refine Below.setCell ?_ (by first | omega | (simp; done) | (simp; omega) | exact Below.size (by assumption) | exact Nat.le_trans (Below.size (by assumption)) (by simp)) _) | (refine Below.via' ?_ (by assumption)) | (refine Below.alloc ?_ (by first | omega | (simp; done) | (simp; omega) | exact Below.size (by assumption) | exact Nat.le_trans (Below.size (by assumption)) (by simp)) _) | (refine Below.via ?_ (by assumption) (by first | omega | (simp; done) | (simp; omega) | exact Below.size (by assumption) | exact Nat.le_trans (Below.size (by assumption)) (by simp))))))) ((go_at_call 125; refine (kindOfSet_any _ _ _ _ ⟨l1, l2⟩).mono ?_; rintro e w3 ⟨rfl, hb3⟩)); rename_i hH; obtain ⟨hb3, hcl3⟩ := hH; have hz3 := hb3.size; (try simp at hz3); (try (have hly3 := Nat.lt_of_succ_le hz3)); (try (have hlx3 := Nat.lt_of_succ_lt hly3)); (try (have hlw3 := Nat.lt_of_succ_lt hlx3)); (try (have hle3 := Nat.le_of_lt hly3)); (try (have hya3 : w.heap.size < w3.heap.size := by omega)); (try (have hyb3 : w.heap.size + 1 < w3.heap.size := by omega)); (try (have hyc3 : w.heap.size + 1 + 1 < w3.heap.size := by omega)); (try (have hyd3 : wa.heap.size < w3.heap.size := by omega))
        go_wp2
        have hbw : Below wr.heap.size wr w3 := (by repeat (first | exact Below.refl _ _ | assumption | refine Below.drew ?_ | refine below_drewN ?_ _ | refine Below.alloc' ?_ _ | (refine Below.setCell ?_ (by first | omega | (simp; done) | (simp; omega) | exact Below.size (by assumption) | exact Nat.le_trans (Below.size (by assumption)) (by simp)) _) | (refine Below.via' ?_ (by assumption)) | (refine Below.alloc ?_ (by first | omega | (simp; done) | (simp; omega) | exact Below.size (by assumption) | exact Nat.le_trans (Below.size (by assumption)) (by simp)) _) | (refine Below.via ?_ (by assumption) (by first | omega | (simp; done) | (simp; omega) | exact Below.size (by assumption) | exact Nat.le_trans (Below.size (by assumption)) (by simp)))))
        go_roundw
        case rel => exact ⟨i + 1, by omega, by go_num, by rw [hsel.out]; exact own_below hownh.out hbw, hqrh.out.below hbw, hBr.trans (hbw.mono hBr.size), Nat.le_trans hszr hbw.size⟩
        case measure => simp [intOf]; omega
      · have hkd : (kdZ lv' v' == 1) = true := by rw [kdZ_some ⟨x1, x2⟩ hfl]; rfl
        have hsel : Hid (ivUp S E (i + 1) = ivUp S E i ++ [(i : Int)]) := pkUp_yes (by rw [hiv]; simp [hfl])
        replace hfl := Lib.hid hfl
        clear hiv
        go_wp2
        go_region_held3 (fun w' => Below ((wr.alloc (.cells #[.string nm', .int .i64 lv'] 93))).heap.size ((wr.alloc (.cells #[.string nm', .int .i64 lv'] 93))) w' ∧ (∀ b o, b < ((wr.alloc (.cells #[.string nm', .int .i64 lv'] 93))).heap.size → w'.cell? ⟨b, o, none⟩ = ((wr.alloc (.cells #[.string nm', .int .i64 lv'] 93))).cell? ⟨b, o, none⟩)) (first | exact keep_of (Below.refl _ _) | ((try go_split_ands); exact keep_of (by repeat (first | exact Below.refl _ _ | assumption | refine Below.drew ?_ | refine below_drewN ?_ _ | refine Below.alloc' ?_ _ | (refine Below.setCell ?_ (by first | omega | (simp; done) | (simp; omega) | exact Below.size (by assumption) | exact Nat.le_trans (Below.size (by assumption)) (by simp)) _) | (refine Below.via' ?_ (by assumption)) | (refine Below.alloc ?_ (by first | omega | (simp; done) | (simp; omega) | exact Below.size (by assumption) | exact Nat.le_trans (Below.size (by assumption)) (by simp)) _) | (refine Below.via ?_ (by assumption) (by first | omega | (simp; done) | (simp; omega) | exact Below.size (by assumption) | exact Nat.le_trans (Below.size (by assumption)) (by simp))))))) ((go_at_call 125; refine (kindOfSet_any _ _ _ _ ⟨l1, l2⟩).mono ?_; rintro e w3 ⟨rfl, hb3⟩)); rename_i hH; obtain ⟨hb3, hcl3⟩ := hH; have hz3 := hb3.size; (try simp at hz3); (try (have hly3 := Nat.lt_of_succ_le hz3)); (try (have hlx3 := Nat.lt_of_succ_lt hly3)); (try (have hlw3 := Nat.lt_of_succ_lt hlx3)); (try (have hle3 := Nat.le_of_lt hly3)); (try (have hya3 : w.heap.size < w3.heap.size := by omega)); (try (have hyb3 : w.heap.size + 1 < w3.heap.size := by omega)); (try (have hyc3 : w.heap.size + 1 + 1 < w3.heap.size := by omega)); (try (have hyd3 : wa.heap.size < w3.heap.size := by omega))
        have hbw : Below wr.heap.size wr w3 := (by repeat (first | exact Below.refl _ _ | assumption | refine Below.drew ?_ | refine below_drewN ?_ _ | refine Below.alloc' ?_ _ | (refine Below.setCell ?_ (by first | omega | (simp; done) | (simp; omega) | exact Below.size (by assumption) | exact Nat.le_trans (Below.size (by assumption)) (by simp)) _) | (refine Below.via' ?_ (by assumption)) | (refine Below.alloc ?_ (by first | omega | (simp; done) | (simp; omega) | exact Below.size (by assumption) | exact Nat.le_trans (Below.size (by assumption)) (by simp)) _) | (refine Below.via ?_ (by assumption) (by first | omega | (simp; done) | (simp; omega) | exact Below.size (by assumption) | exact Nat.le_trans (Below.size (by assumption)) (by simp)))))
        have ho3 := Lib.hid (own_below hownh.out hbw)
        have hq3 := Lib.hid (hqrh.out.below hbw)
        have hBr3 := hBr.trans (hbw.mono hBr.size)
        have hs3 := hbw.size
        clear ka kb kc
        go_wp2_with (at_builtin; go_loud (refine wpList_append_rd _ rfl (.tmp 23) (.tmp 25) 24 rfl ((w.heap.size + 1)) 3 i0 (.int .i64 0) 1 8 Try.underlying24 hii hz0 hz1 hz2 rfl (by decide) _ (ivUp S E i).length (iC (ivUp S E i)) rfl ((ho3.out.alloc _)) _ 1 1 rfl (Nat.le_refl _) (by intro h; cases h) (iC [((i : Int) : Int)]) rfl (rd_oneE _ _ _ _ (by simp)) (iC_one _) (by unfold maxLen; omega) (by omega) (by simp; omega) ?_); intro v3 w3 hown3 hgrow3 hwhere3)
        obtain ⟨hb4, -⟩ := append_below hBr3 (fun k hk => by have := (ho3.out.lt k hk).1; omega) hgrow3 hwhere3
        have hq4 := Lib.hid (hq3.out.restE hgrow3 (fun k hk => by have := (ho3.out.lt k hk).1; omega))
        have hs4 := hgrow3.size
        have hown3 := Lib.hid (own_snocE hown3 hsel.out rfl)
        clear hgrow3 hwhere3
        go_wp2
        go_roundw
        case rel => exact ⟨i + 1, by omega, by go_num, hown3.out, hq4.out, hb4, by simp at hs4; omega⟩
        case measure => simp [intOf]; omega
    · have hij : i = S.length := by omega
      subst hij
      go_wp2
      go_ret
      exact ⟨_, rfl, own_more hownh.out (by omega), hBr⟩
set_option maxHeartbeats 1000000 in
theorem eInvolved_any (x y : Option Addr) (c1 c2 : Nat) (S : List (ByteArray × Int)) (E : List Int) (w : World) (hs : schB S = true) (he : edB S E = true) (hS : SIn w x c1 S) (hE : IIn w y E) :
    Calls Try.prog 52 #[.slice x S.length c1, .agg #[.slice y E.length c2]] w (RetL (ivL S E) w) := by
  obtain ⟨i0, hii, hz0, hz1, hz2⟩ := info_parts Try.infoInt
  have hSh := Lib.hid hS
  have hEh := Lib.hid hE
  have hsh := Lib.hid hs
  have heh := Lib.hid he
  have hlE := Lib.hid (ed_len he)
  have hE6 : E.length ≤ 6 := by have := hlE.out; have := (schB_len hs).2; omega
  have hq := Lib.hid (QB.new w y E.length c2 90)
  clear hS hE hs he
  go_enter Try.func52, Try.ntmps52
  go_wp2
  go_loopw [5, 11] (fun u c wr => ∃ i : Nat, i ≤ E.length ∧ c = .int .i64 i ∧ wr.ownsRow (w.heap.size + 1) 3 1 u (ivUp S E i).length (iC (ivUp S E i)) ∧ Below w.heap.size w wr ∧ w.heap.size + 1 ≤ wr.heap.size) (fun _ c _ => E.length - (intOf c).toNat)
  case atStart => exact ⟨0, by omega, rfl, World.ownsRow_nil _ _ _ _, (by repeat (first | exact Below.refl _ _ | assumption | refine Below.drew ?_ | refine below_drewN ?_ _ | refine Below.alloc' ?_ _ | (refine Below.setCell ?_ (by first | omega | (simp; done) | (simp; omega) | exact Below.size (by assumption) | exact Nat.le_trans (Below.size (by assumption)) (by simp)) _) | (refine Below.via' ?_ (by assumption)) | (refine Below.alloc ?_ (by first | omega | (simp; done) | (simp; omega) | exact Below.size (by assumption) | exact Nat.le_trans (Below.size (by assumption)) (by simp)) _) | (refine Below.via ?_ (by assumption) (by first | omega | (simp; done) | (simp; omega) | exact Below.size (by assumption) | exact Nat.le_trans (Below.size (by assumption)) (by simp))))), by simp⟩
  case round =>
    obtain ⟨i, hi, rfl, hown, hBr, hszr⟩ := hrel
    have hownh := Lib.hid hown
    clear hown
    have hsl := ivUp_len S E i
    by_cases hlt : i < E.length
    · obtain ⟨nm, lv, v, hSi, hEi, x1, x2, l1, l2, x3⟩ := ed_at hsh.out heh.out (i := i) (by have := hlE.out; omega)
      obtain ⟨bl2, off2, v', rfl, hbl2, hEi2, hc2⟩ := (hEh.out.below hBr).2.2.int (i := i) hlt
      obtain rfl := Option.some.inj (hEi2.symm.trans hEi)
      clear hEi2
      have hiv := iv_at hSi hEi
      replace hSi := Lib.hid hSi
      replace hEi := Lib.hid hEi
      have hlt2 : (i : Int) < (E.length : Int) := by omega
      have hi0 : (0 : Int) ≤ (i : Int) := by omega
      by_cases hfl : v' = flZ lv
      · have hkd : (v' == flZ lv) = true := by rw [beq_iff_eq]; exact hfl
        have hsel : Hid (ivUp S E (i + 1) = ivUp S E i) := pkUp_no (by rw [hiv]; simp [hfl])
        replace hfl := Lib.hid hfl
        clear hiv
        go_wp2_with fail
        refine (eFull_any _ _ S i _ _ _ ⟨l1, l2⟩ hSi.out (hSh.out.rd.below (by exact (by repeat (first | exact Below.refl _ _ | assumption | refine Below.drew ?_ | refine below_drewN ?_ _ | refine Below.alloc' ?_ _ | (refine Below.setCell ?_ (by first | omega | (simp; done) | (simp; omega) | exact Below.size (by assumption) | exact Nat.le_trans (Below.size (by assumption)) (by simp)) _) | (refine Below.via' ?_ (by assumption)) | (refine Below.alloc ?_ (by first | omega | (simp; done) | (simp; omega) | exact Below.size (by assumption) | exact Nat.le_trans (Below.size (by assumption)) (by simp)) _) | (refine Below.via ?_ (by assumption) (by first | omega | (simp; done) | (simp; omega) | exact Below.size (by assumption) | exact Nat.le_trans (Below.size (by assumption)) (by simp)))))))).mono ?_
        rintro e w3 ⟨rfl, rfl⟩
        go_wp2
        go_roundw
        case rel => exact ⟨i + 1, by omega, by go_num, by rw [hsel.out]; exact hownh.out, hBr, hszr⟩
        case measure => simp [intOf]; omega
      · have hkd : (v' == flZ lv) = false := by rw [beq_eq_false_iff_ne]; exact hfl
        have hsel : Hid (ivUp S E (i + 1) = ivUp S E i ++ [(i : Int)]) := pkUp_yes (by rw [hiv]; simp [hfl])
        replace hfl := Lib.hid hfl
        clear hiv
        go_wp2_with fail
        refine (eFull_any _ _ S i _ _ _ ⟨l1, l2⟩ hSi.out (hSh.out.rd.below (by exact (by repeat (first | exact Below.refl _ _ | assumption | refine Below.drew ?_ | refine below_drewN ?_ _ | refine Below.alloc' ?_ _ | (refine Below.setCell ?_ (by first | omega | (simp; done) | (simp; omega) | exact Below.size (by assumption) | exact Nat.le_trans (Below.size (by assumption)) (by simp)) _) | (refine Below.via' ?_ (by assumption)) | (refine Below.alloc ?_ (by first | omega | (simp; done) | (simp; omega) | exact Below.size (by assumption) | exact Nat.le_trans (Below.size (by assumption)) (by simp)) _) | (refine Below.via ?_ (by assumption) (by first | omega | (simp; done) | (simp; omega) | exact Below.size (by assumption) | exact Nat.le_trans (Below.size (by assumption)) (by simp)))))))).mono ?_
        rintro e w3 ⟨rfl, rfl⟩
        go_wp2_with (at_builtin; go_loud (refine wpList_append_rd _ rfl (.tmp 21) (.tmp 23) 24 rfl ((w.heap.size + 1)) 3 i0 (.int .i64 0) 1 8 Try.underlying24 hii hz0 hz1 hz2 rfl (by decide) _ (ivUp S E i).length (iC (ivUp S E i)) rfl ((hownh.out.alloc _)) _ 1 1 rfl (Nat.le_refl _) (by intro h; cases h) (iC [((i : Int) : Int)]) rfl (rd_oneE _ _ _ _ (by simp)) (iC_one _) (by unfold maxLen; omega) (by omega) (by simp; omega) ?_); intro v3 w3 hown3 hgrow3 hwhere3)
        obtain ⟨hb4, -⟩ := append_below hBr (fun k hk => by have := (hownh.out.lt k hk).1; omega) hgrow3 hwhere3
        have hs4 := hgrow3.size
        have hown3 := Lib.hid (own_snocE hown3 hsel.out rfl)
        clear hgrow3 hwhere3
        go_wp2
        go_roundw
        case rel => exact ⟨i + 1, by omega, by go_num, hown3.out, hb4, by simp at hs4; omega⟩
        case measure => simp [intOf]; omega
    · have hij : i = E.length := by omega
      subst hij
      have hfin := Lib.hid (show ivUp S E E.length = ivL S E by unfold ivUp ivL; rw [hlE.out])
      go_wp2
      go_ret
      exact ⟨_, rfl, by rw [← hfin.out]; exact own_more hownh.out (by omega), hBr⟩
end Go.Proofs.Ytgkaalonmkcclab
