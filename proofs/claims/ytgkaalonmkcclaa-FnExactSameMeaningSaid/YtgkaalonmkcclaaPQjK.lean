import Derived.Test.YtgkaalonmkcclaaPQjJ
namespace Go.Proofs.Ytgkaalonmkcclaa
open Go.ChangeShapes Go.WideShapes Go.ChangeAt Go.RowKit
set_option maxRecDepth 100000

set_option maxRecDepth 100000 in
theorem fnExactSameMeaning_lifted (os : Os) (started : os.Started) (H : Type) (enc : TypeId × Value → H) :
    ReturnsInHanded {} Try.checked os 12 .any (Rows.fnExactSameMeaningSpec.pre6 enc Try.prog Try.f12 Rows.fnExactSameMeaningRow.domain false) (Rows.fnExactSameMeaningSpec.post enc Try.prog Try.f12 false true false false) := by
  refine returnsInHanded_of_change (C := Try.checked) own started (by kernel_rfl) Try.func12
    (ChangeSpec.witness6 (enc := enc) (C := Try.checked) false ⟨#[], #[.agg #[.slice none 0 0], .slice none 0 0, .agg #[.int .i64 0, .slice none 0 0, .slice none 0 0, .int .i64 0], .agg #[.int .i64 0, .slice none 0 0, .slice none 0 0, .int .i64 0]], []⟩ 8 (by kernel_rfl) (by kernel_rfl) (by kernel_rfl) (by kernel_rfl)) ?_
  intro W base args ds gs before hval0 hW hcnd _
  have hval : ∀ (j : Nat) t v, Try.f12.params[j]? = some t → args[j]? = some v → Value.okWide Try.prog W .any base t v := hval0
  have hW' := hW
  obtain ⟨p, q, hA0, hV, rfl, hfz, hnd⟩ := hW
  have hA : DataW.TrodAll enc Try.prog W 0 (fun _ => true) true Try.f12.params.toList args.toList ds p := hA0
  rw [Try.params12] at hA hval
  obtain ⟨v0, v1, v2, v3, d0, d1, d2, d3, p0, p1, p2, p3, rfl, rfl, rfl, h0, h1, h2, h3⟩ := trodAll_four hA
  obtain ⟨xP, cP, P, rfl, hlP, hnP, hPr⟩ := open_geo (hval 0 _ v0 rfl rfl) h0
  obtain ⟨xS, cS, S, rfl, hlen, hn, hSr⟩ := open_vars (hval 1 _ v1 rfl rfl) h1
  obtain ⟨Ul, xU, cU, UF, zU, dU, UW, Um, rfl, hlUF, hnUF, hUFr, hlUW, hnUW, hUWr⟩ := open_table (hval 2 _ v2 rfl rfl) h2
  obtain ⟨Yl, xY, cY, YF, zY, dY, YW, Ym, rfl, hlYF, hnYF, hYFr, hlYW, hnYW, hYWr⟩ := open_table (hval 3 _ v3 rfl rfl) h3
  refine (fnExactSameMeaning_any xP cP P xS cS S xU zU cU dU Ul UF UW Um xY zY cY dY Yl YF YW Ym W hlP hnP hPr hlen hn hSr hlUF hnUF hUFr hlUW hnUW hUWr hlYF hnYF hYFr hlYW hnYW hYWr).mono fun e W' ⟨he, hb⟩ => ?_
  subst he
  obtain ⟨rfl, rfl⟩ := trodVars_none hV
  exact ⟨_, rfl, law_post laidOut (by kernel_rfl) (by kernel_rfl) rfl Try.underlying4 (fun _ _ _ _ => rfl) hW' hb⟩

theorem fnExactSameMeaning_holds : Rows.FnExactSameMeaningSaid :=
  OpenClaim.holds_of_wide 12 Try.f12 rfl rfl rfl rfl rfl rfl rfl ⟨rfl, rfl, rfl, rfl, rfl⟩ rfl rfl rfl rfl rfl (by kernel_rfl) Try.func12 (by kernel_rfl)
    (of_decide_eq_true (by kernel_rfl)) (by unfold Func.isWrapper; first | (rw [if_pos (by decide +kernel)]; kernel_rfl) | (rw [if_neg (by decide +kernel)]; exact ⟨rfl, rfl⟩))
    (fun os started H enc _ => fnExactSameMeaning_lifted os started H enc)
end Go.Proofs.Ytgkaalonmkcclaa
