/- The law of ParseSchema: for every string the program's ParseSchema answers as the model's, its answer owns its memory, and nothing that was there is written. The card ties the library's variables that strings and strconv list to the program's text. No other condition. -/
import Derived.Test.YtbglogaljjfnnaaDoorSchO
import Derived.Test.YtbglogaljjfnnaaDoorPrs
import Derived.Test.YtbglogaljjfnnaaDoorOwR
import Derived.Test.YtbglogaljjfnnaaDoorTieP
import Derived.Lay
namespace Go.Proofs.YtbglogaljjfnnaaDoor
open Go.ChangeShapes Go.WideShapes Go.ChangeAt Go.RowKit
open Go.Joins
set_option maxRecDepth 100000

set_option maxHeartbeats 4000000 in
theorem fnExactParseSchema_any (s : ByteArray) (w : World) (hs63 : s.size ≤ 9223372036854775807) (hL0 : LibV w) :
    Calls Tryd.prog 4 #[.string s] w fun e w' => e = .returned (.bool true) ∧ Below w.heap.size w w' := by
  have hL := Lib.hid hL0
  clear hL0
  by_cases hm : 1048576 < s.size
  · go_enter Tryd.func4, Tryd.ntmps4
    go_wp2
    go_ret
    exact ⟨rfl, (by repeat (first | exact Below.refl _ _ | assumption | refine Below.drew ?_ | refine below_drewN ?_ _ | refine Below.alloc' ?_ _ | (refine Below.setCell ?_ (by first | omega | (simp; done) | (simp; omega) | exact Below.size (by assumption) | exact Nat.le_trans (Below.size (by assumption)) (by simp)) _) | (refine Below.via' ?_ (by assumption)) | (refine Below.alloc ?_ (by first | omega | (simp; done) | (simp; omega) | exact Below.size (by assumption) | exact Nat.le_trans (Below.size (by assumption)) (by simp)) _) | (refine Below.via ?_ (by assumption) (by first | omega | (simp; done) | (simp; omega) | exact Below.size (by assumption) | exact Nat.le_trans (Below.size (by assumption)) (by simp)))))⟩
  have hm' : s.size ≤ 1048576 := by omega
  have hLl := psL_len s
  go_enter Tryd.func4, Tryd.ntmps4
  go_wp2_with fail
  refine ((sPS_x s _ hm').mono fun _ _ h => h.res).mono ?_
  rintro e w1 ⟨u1, rfl, ho1, hb1⟩
  have W1 := OwR.of ho1
  have hs1 := hb1.size
  go_wp2_with fail
  refine ((iPS_x s _ hm' (hL.out.below hb1)).mono fun _ _ h => h.res).mono ?_
  rintro e w2 ⟨u2, rfl, ho2, hb2⟩
  have R2 := OwR.of ho2
  have hs2 := hb2.size
  have B2 : Below w.heap.size w w2 := hb1.trans (hb2.mono hs1)
  obtain ⟨x1, n1, rfl, hn1, hm1⟩ := W1.form
  obtain ⟨x2, n2, rfl, hn2, hm2⟩ := R2.form
  have W2 := W1.below hb2
  go_wp2_with fail
  refine (eqVariableS_any _ _ _ _ (psL s) _ (by omega) R2.rd W2.rd).mono ?_
  rintro e w3 ⟨rfl, hb3⟩
  have R3 := R2.below hb3
  have W3 := W2.below hb3
  have hs3 := hb3.size
  have B3 : Below w.heap.size w w3 := B2.trans (hb3.mono B2.size)
  go_wp2_with fail
  refine (markVariableS_any _ _ _ _ _ _ _ (by omega) (by omega) (by omega) R3.1).mono ?_
  rintro e w4 ⟨rfl, hm4, hg4⟩
  have B4 := Below.mark B3 R3 hg4 (by omega)
  have W4 := W3.keep hg4 (fun k hk => by have := R3.2 k hk; omega)
  have R4 := R3.turn hm4
  go_wp2_with fail
  refine (heldVariableS_any _ _ _ _ _ (by omega) (by omega) (by omega) R4.rd).mono ?_
  rintro e w5 ⟨rfl, hb5⟩
  have R5 := R4.below hb5
  have W5 := W4.below hb5
  have B5 : Below w.heap.size w w5 := B4.trans (hb5.mono B4.size)
  have hs5 := hb5.size
  go_wp2_with fail
  refine ((iPS_x s _ hm' (hL.out.below B5)).mono fun _ _ h => h.res).mono ?_
  rintro e w6 ⟨u6, rfl, ho6, hb6⟩
  have H6 := OwR.of ho6
  obtain ⟨x6, n6, rfl, -, -⟩ := H6.form
  have R6 := R5.below hb6
  have W6 := W5.below hb6
  have B6 : Below w.heap.size w w6 := B5.trans (hb6.mono B5.size)
  go_wp2_with fail
  refine (eqVariableS_any _ _ _ _ (psL s) _ (by omega) H6.rd W6.rd).mono ?_
  rintro e w7 ⟨rfl, hb7⟩
  have R7 := R6.below hb7
  have B7 : Below w.heap.size w w7 := B6.trans (hb7.mono B6.size)
  go_wp2_with fail
  refine (heldVariableS_any _ _ _ _ _ (by omega) (by omega) (by omega) R7.rd).mono ?_
  rintro e w8 ⟨rfl, hb8⟩
  have B8 : Below w.heap.size w w8 := B7.trans (hb8.mono B7.size)
  go_wp2
  go_ret
  exact ⟨rfl, B8⟩

set_option maxRecDepth 100000 in
theorem fnExactParseSchema_lifted (os : Os) (started : os.Started) (H : Type) (enc : TypeId × Value → H) :
    ReturnsInHanded {} Tryd.checked os 4 .any (fun w args => (Rows.fnExactParseSchemaSpec.pre enc Tryd.prog Tryd.f4 [] false w args ∧ laidMetH Tryd.prog Rows.fnExactParseSchemaRow.laid w) ∧ sizedMet enc Tryd.prog Tryd.f4 (OpenSpec.ofChange Rows.fnExactParseSchemaSpec) false w args)
      (Rows.fnExactParseSchemaSpec.post enc Tryd.prog Tryd.f4 false true false false) := by
  refine handed_and_shape (C := Tryd.checked) (X := fun w _ => laidMetH Tryd.prog Rows.fnExactParseSchemaRow.laid w) (fun _ _ _ hh h => h.of_heap hh) own started (by kernel_rfl) Tryd.func4
    (ChangeSpec.witness_shaped (enc := enc) (C := Tryd.checked) (os := os) (X := fun w _ => laidMetH Tryd.prog Rows.fnExactParseSchemaRow.laid w) false (World.laidAll Tryd.prog os Rows.fnExactParseSchemaRow.laid) #[.string ⟨#[]⟩] 8 (World.laidAll_os _ _ _) (World.shaped_of_ZipB (by kernel_rfl) (by kernel_rfl)) (by kernel_rfl) (by kernel_rfl) (by kernel_rfl) (by rw [MakeChecks.laidMetH_plain _ _ _ (by kernel_rfl)]; exact laidMet_laidAll _ (by kernel_rfl) (by kernel_rfl))) ?_
  intro W base args ds gs before hval0 hW hwt hL hshape
  have hval : ∀ (j : Nat) t v, Tryd.f4.params[j]? = some t → args[j]? = some v → Value.okWide Tryd.prog W .any base t v := hval0
  have hW' := hW
  obtain ⟨p, q, hA0, hV, rfl, hfz, hnd⟩ := hW
  have hA : DataW.TrodAll enc Tryd.prog W 0 (fun _ => true) true Tryd.f4.params.toList args.toList ds p := hA0
  rw [Tryd.params4] at hA hval
  rw [MakeChecks.laidMetH_plain _ _ _ (by kernel_rfl)] at hL
  have hLr := laidMet.tail (laidMet.tail (laidMet.tail (laidMet.tail hL)))
  have hLV := libV_of hLr (laidMet.tail hLr) hshape
  obtain ⟨v0, d0, rfl, rfl, h0⟩ := trodAll_one hA
  obtain ⟨s, rfl, hs63⟩ := open_str (hval 0 _ v0 rfl rfl) h0
  refine (fnExactParseSchema_any s W hs63 hLV).mono fun e W' ⟨he, hb⟩ => ?_
  subst he
  obtain ⟨rfl, rfl⟩ := trodVars_none hV
  exact ⟨_, rfl, law_post laidOut (by kernel_rfl) (by kernel_rfl) rfl Tryd.underlying4 (fun _ _ _ _ => rfl) hW' hb⟩

theorem fnExactParseSchema_row : Rows.FnExactParseSchemaSaid :=
  OpenClaim.holds_of_wide 4 Tryd.f4 rfl rfl rfl rfl rfl rfl rfl ⟨rfl, rfl, rfl, rfl, rfl⟩ rfl rfl rfl rfl rfl (by kernel_rfl) Tryd.func4 (by kernel_rfl)
    (of_decide_eq_true (by kernel_rfl)) (by unfold Func.isWrapper; first | (rw [if_pos (by decide +kernel)]; kernel_rfl) | (rw [if_neg (by decide +kernel)]; exact ⟨rfl, rfl⟩))
    (fun os started H enc _ => fnExactParseSchema_lifted os started H enc)

theorem fnExactParseSchema_holds : Rows.FnExactParseSchemaCardSaid :=
  Claim7.holds_tied_plain_at .later [] _ true _ _
    fnExactParseSchema_row (fun _ h => by cases h) (by kernel_rfl) (fun _ h => by cases h) fnExactParseSchema_row_tie rfl ⟨rfl, rfl⟩ (by kernel_rfl) rfl
    (fun f fn hf hfn => by
      obtain rfl : f = 4 := Option.some.inj ((show Tryd.prog.funcNamed "loop.example/g00908/laws.FnExactParseSchema" = some 4 by kernel_rfl).symm.trans hf) |>.symm
      obtain rfl : fn = Tryd.f4 := (Option.some.inj (Tryd.func4.symm.trans hfn)).symm
      exact ⟨by kernel_rfl, fun j t ht => by
        have hm : t ∈ Tryd.f4.params.toList := Array.mem_toList_iff.2 (Array.mem_of_getElem? ht)
        have hall : (Tryd.f4.params.toList.all fun u => !Tryd.prog.wantsStandIn u) = true := by kernel_rfl
        exact (show Tryd.prog.wantsStandIn t = false by simpa using List.all_eq_true.1 hall t hm)⟩)
    (by kernel_rfl)

end Go.Proofs.YtbglogaljjfnnaaDoor
