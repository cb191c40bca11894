import Derived.Test.YtnmpigedhpdenaaPQrE
namespace Go.Proofs.Ytnmpigedhpdenaa
open Go.ChangeShapes Go.WideShapes Go.ChangeAt Go.RowKit
set_option maxRecDepth 100000

set_option maxRecDepth 100000 in
theorem fnExactGroupCube_lifted (os : Os) (started : os.Started) (H : Type) (enc : TypeId × Value → H) :
    ReturnsInHanded {} Try.checked os 10 .any (Rows.fnExactGroupCubeSpec.pre6 enc Try.prog Try.f10 Rows.fnExactGroupCubeRow.domain false) (Rows.fnExactGroupCubeSpec.post enc Try.prog Try.f10 false true false false) := by
  refine returnsInHanded_of_change (C := Try.checked) own started (by kernel_rfl) Try.func10
    (ChangeSpec.witness6 (enc := enc) (C := Try.checked) false ⟨#[], #[.agg #[.slice none 0 0, .slice none 0 0], .int .i64 0, .slice none 0 0], []⟩ 8 (by kernel_rfl) (by kernel_rfl) (by kernel_rfl) (by kernel_rfl)) ?_
  intro W base args ds gs before hval0 hW hcnd _
  have hval : ∀ (j : Nat) t v, Try.f10.params[j]? = some t → args[j]? = some v → Value.okWide Try.prog W .any base t v := hval0
  have hW' := hW
  obtain ⟨p, q, hA0, hV, rfl, hfz, hnd⟩ := hW
  have hA : DataW.TrodAll enc Try.prog W 0 (fun _ => true) true Try.f10.params.toList args.toList ds p := hA0
  rw [Try.params10] at hA hval
  obtain ⟨v0, v1, v2, d0, d1, d2, p0, p1, p2, rfl, rfl, rfl, h0, h1, h2⟩ := trodAll_three hA
  obtain ⟨xU, cU, UF, zU, dU, UW, rfl, hlUF, hnUF, hUFr, hlUW, hnUW, hUWr⟩ := open_cube (hval 0 _ v0 rfl rfl) h0
  obtain ⟨m, rfl, _⟩ := open_int h1 (okWide_int Try.underlying3 (hval 1 _ v1 rfl rfl))
  obtain ⟨xV, cV, V, rfl, hlV, hnV, hVr⟩ := open_intS (hval 2 _ v2 rfl rfl) h2
  refine (fnExactGroupCube_any xU zU cU dU UF UW m xV cV V W hlUF hnUF hUFr hlUW hnUW hUWr hlV hnV hVr).mono fun e W' ⟨he, hb⟩ => ?_
  subst he
  obtain ⟨rfl, rfl⟩ := trodVars_none hV
  exact ⟨_, rfl, law_post laidOut (by kernel_rfl) (by kernel_rfl) rfl Try.underlying4 (fun _ _ _ _ => rfl) hW' hb⟩

theorem fnExactGroupCube_holds : Rows.FnExactGroupCubeSaid :=
  OpenClaim.holds_of_wide 10 Try.f10 rfl rfl rfl rfl rfl rfl rfl ⟨rfl, rfl, rfl, rfl, rfl⟩ rfl rfl rfl rfl rfl (by kernel_rfl) Try.func10 (by kernel_rfl)
    (of_decide_eq_true (by kernel_rfl)) (by unfold Func.isWrapper; first | (rw [if_pos (by decide +kernel)]; kernel_rfl) | (rw [if_neg (by decide +kernel)]; exact ⟨rfl, rfl⟩))
    (fun os started H enc _ => fnExactGroupCube_lifted os started H enc)
end Go.Proofs.Ytnmpigedhpdenaa
