import Derived.Test.YtgkaalonmkcclabPRcF
namespace Go.Proofs.Ytgkaalonmkcclab
open Go.ChangeShapes Go.WideShapes Go.ChangeAt Go.RowKit
set_option maxRecDepth 100000

set_option maxRecDepth 100000 in
theorem fnExactIsCover_lifted (os : Os) (started : os.Started) (H : Type) (enc : TypeId × Value → H) :
    ReturnsInHanded {} Try.checked os 3 .any (Rows.fnExactIsCoverSpec.pre6 enc Try.prog Try.f3 Rows.fnExactIsCoverRow.domain false) (Rows.fnExactIsCoverSpec.post enc Try.prog Try.f3 false true false false) := by
  refine returnsInHanded_of_change (C := Try.checked) own started (by kernel_rfl) Try.func3
    (ChangeSpec.witness6 (enc := enc) (C := Try.checked) false ⟨#[], #[.slice none 0 0, .slice none 0 0, .slice none 0 0, .slice none 0 0], []⟩ 8 (by kernel_rfl) (by kernel_rfl) (by kernel_rfl) (by kernel_rfl)) ?_
  intro W base args ds gs before hval0 hW hcnd _
  have hval : ∀ (j : Nat) t v, Try.f3.params[j]? = some t → args[j]? = some v → Value.okWide Try.prog W .any base t v := hval0
  have hW' := hW
  obtain ⟨p, q, hA0, hV, rfl, hfz, hnd⟩ := hW
  have hA : DataW.TrodAll enc Try.prog W 0 (fun _ => true) true Try.f3.params.toList args.toList ds p := hA0
  rw [Try.params3] at hA hval
  obtain ⟨v0, v1, v2, v3, d0, d1, d2, d3, p0, p1, p2, p3, rfl, rfl, rfl, h0, h1, h2, h3⟩ := trodAll_four hA
  obtain ⟨xS, cS, S, rfl, hlen, hn, hSr⟩ := open_vars (hval 0 _ v0 rfl rfl) h0
  obtain ⟨xQ, cQ, Q, rfl, hQr, hlQ⟩ := open_edits (hval 1 _ v1 rfl rfl) h1
  obtain ⟨xV, cV, V, rfl, hlV, hnV, hVr⟩ := open_intS (hval 2 _ v2 rfl rfl) h2
  obtain ⟨xI, cI, I, rfl, hlI, hnI, hIr⟩ := open_intS (hval 3 _ v3 rfl rfl) h3
  refine (fnExactIsCover_any xS cS S xQ cQ Q xV cV V xI cI I W hlen hn hSr hQr hlQ hlV hnV hVr hlI hnI hIr).mono fun e W' ⟨he, hb⟩ => ?_
  subst he
  obtain ⟨rfl, rfl⟩ := trodVars_none hV
  exact ⟨_, rfl, law_post laidOut (by kernel_rfl) (by kernel_rfl) rfl Try.underlying4 (fun _ _ _ _ => rfl) hW' hb⟩

theorem fnExactIsCover_holds : Rows.FnExactIsCoverSaid :=
  OpenClaim.holds_of_wide 3 Try.f3 rfl rfl rfl rfl rfl rfl rfl ⟨rfl, rfl, rfl, rfl, rfl⟩ rfl rfl rfl rfl rfl (by kernel_rfl) Try.func3 (by kernel_rfl)
    (of_decide_eq_true (by kernel_rfl)) (by unfold Func.isWrapper; first | (rw [if_pos (by decide +kernel)]; kernel_rfl) | (rw [if_neg (by decide +kernel)]; exact ⟨rfl, rfl⟩))
    (fun os started H enc _ => fnExactIsCover_lifted os started H enc)
end Go.Proofs.Ytgkaalonmkcclab
