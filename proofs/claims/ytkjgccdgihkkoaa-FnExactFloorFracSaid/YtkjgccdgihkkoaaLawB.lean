/- The law of FloorFrac: for every two integers the program's FloorFrac answers as the model's; the argument reads as before. No condition. -/
import Derived.Test.YtkjgccdgihkkoaaOpen
namespace Go.Proofs.Ytkjgccdgihkkoaa
open Go.ChangeShapes Go.WideShapes Go.ChangeAt Go.RowKit
set_option maxRecDepth 100000

theorem fnExactFloorFrac_any (n d : Int) (w : World) :
    Calls Try.prog 5 #[.agg #[.int .i64 n, .int .i64 d]] w fun e w' => e = .returned (.bool true) ∧ Below w.heap.size w w' := by
  cases hf : fOK n d
  · have hR := floorR_f hf
    go_enter Try.func5, Try.ntmps5
    go_wp2_with (first | (go_at_call 8; refine (toFrac_any _ _ _).mono ?_; rintro e w1 ⟨rfl, hb1⟩; obtain ⟨hcl1, hfr1⟩ := bcell hb1; have hz1 := hb1.size; try simp at hz1; try (have hya1 : w.heap.size < w1.heap.size := by omega); try (have hyb1 : w.heap.size + 1 < w1.heap.size := by omega); try (have hyc1 : w.heap.size + 1 + 1 < w1.heap.size := by omega)) | (go_at_call 12; refine (sFloorFrac_any _ _ _).mono ?_; rintro e w2 ⟨rfl, hb2⟩; obtain ⟨hcl2, hfr2⟩ := bcell hb2; have hz2 := hb2.size; try simp at hz2; try (have hya2 : w.heap.size < w2.heap.size := by omega); try (have hyb2 : w.heap.size + 1 < w2.heap.size := by omega); try (have hyc2 : w.heap.size + 1 + 1 < w2.heap.size := by omega)) | (go_at_call 13; refine (floorFrac_any _ _ _).mono ?_; rintro e w3 ⟨rfl, hb3⟩; obtain ⟨hcl3, hfr3⟩ := bcell hb3; have hz3 := hb3.size; try simp at hz3; try (have hya3 : w.heap.size < w3.heap.size := by omega); try (have hyb3 : w.heap.size + 1 < w3.heap.size := by omega); try (have hyc3 : w.heap.size + 1 + 1 < w3.heap.size := by omega)))
    go_ret
    exact ⟨rfl, (by repeat (first | exact Below.refl _ _ | assumption | refine Below.drew ?_ | refine below_drewN ?_ _ | (refine Below.alloc ?_ (by simp; try omega) _) | (refine Below.setCell ?_ (by simp; try omega) _) | (refine Below.via ?_ (by assumption) (by first | omega | (simp; done) | (simp; omega)))))⟩
  · have hR := floorR_t hf
    go_enter Try.func5, Try.ntmps5
    go_wp2_with (first | (go_at_call 8; refine (toFrac_any _ _ _).mono ?_; rintro e w1 ⟨rfl, hb1⟩; obtain ⟨hcl1, hfr1⟩ := bcell hb1; have hz1 := hb1.size; try simp at hz1; try (have hya1 : w.heap.size < w1.heap.size := by omega); try (have hyb1 : w.heap.size + 1 < w1.heap.size := by omega); try (have hyc1 : w.heap.size + 1 + 1 < w1.heap.size := by omega)) | (go_at_call 12; refine (sFloorFrac_any _ _ _).mono ?_; rintro e w2 ⟨rfl, hb2⟩; obtain ⟨hcl2, hfr2⟩ := bcell hb2; have hz2 := hb2.size; try simp at hz2; try (have hya2 : w.heap.size < w2.heap.size := by omega); try (have hyb2 : w.heap.size + 1 < w2.heap.size := by omega); try (have hyc2 : w.heap.size + 1 + 1 < w2.heap.size := by omega)) | (go_at_call 13; refine (floorFrac_any _ _ _).mono ?_; rintro e w3 ⟨rfl, hb3⟩; obtain ⟨hcl3, hfr3⟩ := bcell hb3; have hz3 := hb3.size; try simp at hz3; try (have hya3 : w.heap.size < w3.heap.size := by omega); try (have hyb3 : w.heap.size + 1 < w3.heap.size := by omega); try (have hyc3 : w.heap.size + 1 + 1 < w3.heap.size := by omega)))
    go_ret
    exact ⟨rfl, (by repeat (first | exact Below.refl _ _ | assumption | refine Below.drew ?_ | refine below_drewN ?_ _ | (refine Below.alloc ?_ (by simp; try omega) _) | (refine Below.setCell ?_ (by simp; try omega) _) | (refine Below.via ?_ (by assumption) (by first | omega | (simp; done) | (simp; omega)))))⟩

set_option maxRecDepth 100000 in
theorem fnExactFloorFrac_lifted (os : Os) (started : os.Started) (H : Type) (enc : TypeId × Value → H) :
    ReturnsInHanded {} Try.checked os 5 .any (Rows.fnExactFloorFracSpec.pre6 enc Try.prog Try.f5 Rows.fnExactFloorFracRow.domain false) (Rows.fnExactFloorFracSpec.post enc Try.prog Try.f5 false true false false) := by
  refine returnsInHanded_of_change (C := Try.checked) own started (by kernel_rfl) Try.func5
    (ChangeSpec.witness6 (enc := enc) (C := Try.checked) false ⟨#[], #[.agg #[.int .i64 0, .int .i64 0]], []⟩ 8 (by kernel_rfl) (by kernel_rfl) (by kernel_rfl) (by kernel_rfl)) ?_
  intro W base args ds gs before hval0 hW hcnd _
  have hval : ∀ (j : Nat) t v, Try.f5.params[j]? = some t → args[j]? = some v → Value.okWide Try.prog W .any base t v := hval0
  have hW' := hW
  obtain ⟨p, q, hA0, hV, rfl, hfz, hnd⟩ := hW
  have hA : DataW.TrodAll enc Try.prog W 0 (fun _ => true) true Try.f5.params.toList args.toList ds p := hA0
  rw [Try.params5] at hA hval
  obtain ⟨v0, d0, rfl, rfl, h0⟩ := trodAll_one hA
  obtain ⟨a, b, _, _, rfl⟩ := open_frac (hval 0 _ v0 rfl rfl) h0
  refine (fnExactFloorFrac_any a b W).mono fun e W' ⟨he, hb⟩ => ?_
  subst he
  obtain ⟨rfl, rfl⟩ := trodVars_none hV
  exact ⟨_, rfl, law_post laidOut (by kernel_rfl) (by kernel_rfl) rfl Try.underlying4 (fun _ _ _ _ => rfl) hW' hb⟩

theorem fnExactFloorFrac_holds : Rows.FnExactFloorFracSaid :=
  OpenClaim.holds_of_wide 5 Try.f5 rfl rfl rfl rfl rfl rfl rfl ⟨rfl, rfl, rfl, rfl, rfl⟩ rfl rfl rfl rfl rfl (by kernel_rfl) Try.func5 (by kernel_rfl)
    (of_decide_eq_true (by kernel_rfl)) (by unfold Func.isWrapper; first | (rw [if_pos (by decide +kernel)]; kernel_rfl) | (rw [if_neg (by decide +kernel)]; exact ⟨rfl, rfl⟩))
    (fun os started H enc _ => fnExactFloorFrac_lifted os started H enc)
end Go.Proofs.Ytkjgccdgihkkoaa
