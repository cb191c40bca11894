/- The law of CompareFrac: for every four integers the program's CompareFrac answers as the model's; the arguments read as before. No condition. -/
import Derived.Test.YtkjgccdgihkkoaaOpen
namespace Go.Proofs.Ytkjgccdgihkkoaa
open Go.ChangeShapes Go.WideShapes Go.ChangeAt Go.RowKit
set_option maxRecDepth 100000

theorem fnExactCompareFrac_any (n d m c : Int) (w : World) :
    Calls Try.prog 4 #[.agg #[.int .i64 n, .int .i64 d], .agg #[.int .i64 m, .int .i64 c]] w fun e w' => e = .returned (.bool true) ∧ Below w.heap.size w w' := by
  cases hf : (fOK n d && fOK m c)
  · have hR := cmpR_f hf
    go_enter Try.func4, Try.ntmps4
    go_wp2_with (fail)
    go_region_held3 (fun w' => Below ((w.alloc (.cells #[.int .i64 n, .int .i64 d] 23)).alloc (.cells #[.int .i64 m, .int .i64 c] 23)).heap.size ((w.alloc (.cells #[.int .i64 n, .int .i64 d] 23)).alloc (.cells #[.int .i64 m, .int .i64 c] 23)) w' ∧ (∀ b o, b < ((w.alloc (.cells #[.int .i64 n, .int .i64 d] 23)).alloc (.cells #[.int .i64 m, .int .i64 c] 23)).heap.size → w'.cell? ⟨b, o, none⟩ = ((w.alloc (.cells #[.int .i64 n, .int .i64 d] 23)).alloc (.cells #[.int .i64 m, .int .i64 c] 23)).cell? ⟨b, o, none⟩)) (first | exact ⟨Below.refl _ _, fun _ _ _ => rfl⟩ | exact keep_drew (Below.refl _ _) | (go_split_ands; exact keep_below (by assumption) (by assumption)) | (go_split_ands; exact keep_drew (by assumption))) (first | (go_at_call 8; refine (toFrac_any _ _ _).mono ?_; rintro e w1 ⟨rfl, hb1⟩) | (go_at_call 10; refine (sCompareFrac_any _ _ _ _ _).mono ?_; rintro e w2 ⟨rfl, hb2⟩) | (go_at_call 11; refine (compareFrac_any _ _ _ _ _).mono ?_; rintro e w2 ⟨rfl, hb2⟩)); (rename_i hH; obtain ⟨hb2, hcl2⟩ := hH; have hz2 := hb2.size; try simp at hz2); try (have hya2 : w.heap.size < w2.heap.size := by omega); try (have hyb2 : w.heap.size + 1 < w2.heap.size := by omega); try (have hyc2 : w.heap.size + 1 + 1 < w2.heap.size := by omega)
    go_wp2_with (fail)
    go_region_held3 (fun w' => Below (w2).heap.size (w2) w' ∧ (∀ b o, b < (w2).heap.size → w'.cell? ⟨b, o, none⟩ = (w2).cell? ⟨b, o, none⟩)) (first | exact ⟨Below.refl _ _, fun _ _ _ => rfl⟩ | exact keep_drew (Below.refl _ _) | (go_split_ands; exact keep_below (by assumption) (by assumption)) | (go_split_ands; exact keep_drew (by assumption))) (first | (go_at_call 8; refine (toFrac_any _ _ _).mono ?_; rintro e w3 ⟨rfl, hb3⟩) | (go_at_call 10; refine (sCompareFrac_any _ _ _ _ _).mono ?_; rintro e w4 ⟨rfl, hb4⟩) | (go_at_call 11; refine (compareFrac_any _ _ _ _ _).mono ?_; rintro e w4 ⟨rfl, hb4⟩)); (rename_i hH; obtain ⟨hb4, hcl4⟩ := hH; have hz4 := hb4.size; try simp at hz4); try (have hya4 : w.heap.size < w4.heap.size := by omega); try (have hyb4 : w.heap.size + 1 < w4.heap.size := by omega); try (have hyc4 : w.heap.size + 1 + 1 < w4.heap.size := by omega)
    go_wp2
    go_ret
    exact ⟨rfl, (by repeat (first | exact Below.refl _ _ | assumption | refine Below.drew ?_ | refine below_drewN ?_ _ | (refine Below.alloc ?_ (by simp; try omega) _) | (refine Below.setCell ?_ (by simp; try omega) _) | (refine Below.via ?_ (by assumption) (by first | omega | (simp; done) | (simp; omega)))))⟩
  · have hR := cmpR_t hf
    go_enter Try.func4, Try.ntmps4
    go_wp2_with (fail)
    go_region_held3 (fun w' => Below ((w.alloc (.cells #[.int .i64 n, .int .i64 d] 23)).alloc (.cells #[.int .i64 m, .int .i64 c] 23)).heap.size ((w.alloc (.cells #[.int .i64 n, .int .i64 d] 23)).alloc (.cells #[.int .i64 m, .int .i64 c] 23)) w' ∧ (∀ b o, b < ((w.alloc (.cells #[.int .i64 n, .int .i64 d] 23)).alloc (.cells #[.int .i64 m, .int .i64 c] 23)).heap.size → w'.cell? ⟨b, o, none⟩ = ((w.alloc (.cells #[.int .i64 n, .int .i64 d] 23)).alloc (.cells #[.int .i64 m, .int .i64 c] 23)).cell? ⟨b, o, none⟩)) (first | exact ⟨Below.refl _ _, fun _ _ _ => rfl⟩ | exact keep_drew (Below.refl _ _) | (go_split_ands; exact keep_below (by assumption) (by assumption)) | (go_split_ands; exact keep_drew (by assumption))) (first | (go_at_call 8; refine (toFrac_any _ _ _).mono ?_; rintro e w1 ⟨rfl, hb1⟩) | (go_at_call 10; refine (sCompareFrac_any _ _ _ _ _).mono ?_; rintro e w2 ⟨rfl, hb2⟩) | (go_at_call 11; refine (compareFrac_any _ _ _ _ _).mono ?_; rintro e w2 ⟨rfl, hb2⟩)); (rename_i hH; obtain ⟨hb2, hcl2⟩ := hH; have hz2 := hb2.size; try simp at hz2); try (have hya2 : w.heap.size < w2.heap.size := by omega); try (have hyb2 : w.heap.size + 1 < w2.heap.size := by omega); try (have hyc2 : w.heap.size + 1 + 1 < w2.heap.size := by omega)
    go_wp2_with (fail)
    go_region_held3 (fun w' => Below (w2).heap.size (w2) w' ∧ (∀ b o, b < (w2).heap.size → w'.cell? ⟨b, o, none⟩ = (w2).cell? ⟨b, o, none⟩)) (first | exact ⟨Below.refl _ _, fun _ _ _ => rfl⟩ | exact keep_drew (Below.refl _ _) | (go_split_ands; exact keep_below (by assumption) (by assumption)) | (go_split_ands; exact keep_drew (by assumption))) (first | (go_at_call 8; refine (toFrac_any _ _ _).mono ?_; rintro e w3 ⟨rfl, hb3⟩) | (go_at_call 10; refine (sCompareFrac_any _ _ _ _ _).mono ?_; rintro e w4 ⟨rfl, hb4⟩) | (go_at_call 11; refine (compareFrac_any _ _ _ _ _).mono ?_; rintro e w4 ⟨rfl, hb4⟩)); (rename_i hH; obtain ⟨hb4, hcl4⟩ := hH; have hz4 := hb4.size; try simp at hz4); try (have hya4 : w.heap.size < w4.heap.size := by omega); try (have hyb4 : w.heap.size + 1 < w4.heap.size := by omega); try (have hyc4 : w.heap.size + 1 + 1 < w4.heap.size := by omega)
    go_wp2
    go_ret
    exact ⟨rfl, (by repeat (first | exact Below.refl _ _ | assumption | refine Below.drew ?_ | refine below_drewN ?_ _ | (refine Below.alloc ?_ (by simp; try omega) _) | (refine Below.setCell ?_ (by simp; try omega) _) | (refine Below.via ?_ (by assumption) (by first | omega | (simp; done) | (simp; omega)))))⟩

set_option maxRecDepth 100000 in
theorem fnExactCompareFrac_lifted (os : Os) (started : os.Started) (H : Type) (enc : TypeId × Value → H) :
    ReturnsInHanded {} Try.checked os 4 .any (Rows.fnExactCompareFracSpec.pre6 enc Try.prog Try.f4 Rows.fnExactCompareFracRow.domain false) (Rows.fnExactCompareFracSpec.post enc Try.prog Try.f4 false true false false) := by
  refine returnsInHanded_of_change (C := Try.checked) own started (by kernel_rfl) Try.func4
    (ChangeSpec.witness6 (enc := enc) (C := Try.checked) false ⟨#[], #[.agg #[.int .i64 0, .int .i64 0], .agg #[.int .i64 0, .int .i64 0]], []⟩ 8 (by kernel_rfl) (by kernel_rfl) (by kernel_rfl) (by kernel_rfl)) ?_
  intro W base args ds gs before hval0 hW hcnd _
  have hval : ∀ (j : Nat) t v, Try.f4.params[j]? = some t → args[j]? = some v → Value.okWide Try.prog W .any base t v := hval0
  have hW' := hW
  obtain ⟨p, q, hA0, hV, rfl, hfz, hnd⟩ := hW
  have hA : DataW.TrodAll enc Try.prog W 0 (fun _ => true) true Try.f4.params.toList args.toList ds p := hA0
  rw [Try.params4] at hA hval
  obtain ⟨v0, v1, d0, d1, p0, p1, rfl, rfl, rfl, h0, h1⟩ := trodAll_two hA
  obtain ⟨a, b, _, _, rfl⟩ := open_frac (hval 0 _ v0 rfl rfl) h0
  obtain ⟨a2, b2, _, _, rfl⟩ := open_frac (hval 1 _ v1 rfl rfl) h1
  refine (fnExactCompareFrac_any a b a2 b2 W).mono fun e W' ⟨he, hb⟩ => ?_
  subst he
  obtain ⟨rfl, rfl⟩ := trodVars_none hV
  exact ⟨_, rfl, law_post laidOut (by kernel_rfl) (by kernel_rfl) rfl Try.underlying4 (fun _ _ _ _ => rfl) hW' hb⟩

theorem fnExactCompareFrac_holds : Rows.FnExactCompareFracSaid :=
  OpenClaim.holds_of_wide 4 Try.f4 rfl rfl rfl rfl rfl rfl rfl ⟨rfl, rfl, rfl, rfl, rfl⟩ rfl rfl rfl rfl rfl (by kernel_rfl) Try.func4 (by kernel_rfl)
    (of_decide_eq_true (by kernel_rfl)) (by unfold Func.isWrapper; first | (rw [if_pos (by decide +kernel)]; kernel_rfl) | (rw [if_neg (by decide +kernel)]; exact ⟨rfl, rfl⟩))
    (fun os started H enc _ => fnExactCompareFrac_lifted os started H enc)
end Go.Proofs.Ytkjgccdgihkkoaa
