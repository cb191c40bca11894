import Derived.Test.YtjbhmofaackjpaaPjJ
import Derived.Test.YtjbhmofaackjpaaPjK
namespace Go.Proofs.Ytjbhmofaackjpaa
open Go.ChangeShapes Go.WideShapes Go.ChangeAt Go.RowKit
open Go.Joins
set_option maxRecDepth 100000

theorem anyEd_all (x : Option Addr) (n cap b : Nat) (y : Option Addr) (cy : Nat) (S : List (ByteArray × Int)) : AnyEd b x n cap y cy S := fun k w hk hC hB hS hyb => by
  cases hs : schB S
  · exact anyEdit_bad b x n cap k 60 y cy S w hs hC hS
  · exact anyEdit_good b x n cap k y cy S w hk hs hC hB hS hS.2.2.2 hyb
theorem fnPassing_any (x1 x2 : Option Addr) (n1 c1 n2 c2 : Nat) (w : World) (hB1 : ByRd w x1 n1) (hB2 : ByRd w x2 n2) (hl1 : n1 ≤ 140737488355327) (hl2 : n2 ≤ 140737488355327) :
    Calls Try.prog 3 #[.slice x1 n1 c1, .slice x2 n2 c2] w fun e w' => e = .returned (.bool true) ∧ Below w.heap.size w w' :=
  fnPassing_of (fun x n cap b y cy S => anyEd_all x n cap b y cy S) x1 x2 n1 c1 n2 c2 w hB1 hB2 hl1 hl2
set_option maxRecDepth 100000 in
theorem fnPassing_lifted (os : Os) (started : os.Started) (H : Type) (enc : TypeId × Value → H) :
    ReturnsInHanded {} Try.checked os 3 .any (Rows.fnPassingSpec.pre6 enc Try.prog Try.f3 Rows.fnPassingRow.domain false) (Rows.fnPassingSpec.post enc Try.prog Try.f3 false true false false) := by
  refine returnsInHanded_of_change_sized (C := Try.checked) own started (by kernel_rfl) Try.func3
    (ChangeSpec.witness6 (enc := enc) (C := Try.checked) false ⟨#[], #[.slice none 0 0, .slice none 0 0], []⟩ 8 (by kernel_rfl) (by kernel_rfl) (by kernel_rfl) (by kernel_rfl)) ?_
  intro W base args ds gs before hval0 hW hcnd hwt _
  have hval : ∀ (j : Nat) t v, Try.f3.params[j]? = some t → args[j]? = some v → Value.okWide Try.prog W .any base t v := hval0
  have hW' := hW
  obtain ⟨p, q, hA0, hV, rfl, hfz, hnd⟩ := hW
  have hA : DataW.TrodAll enc Try.prog W 0 (fun _ => true) true Try.f3.params.toList args.toList ds p := hA0
  rw [Try.params3] at hA hval
  obtain ⟨v0, v1, d0, d1, p0, p1, rfl, rfl, rfl, h0, h1⟩ := trodAll_two hA
  have hb8 : Try.checked.prog.bytesOf 5 = 1 := by kernel_rfl
  have hw0 : ∀ elems spare, d0 = .slice elems spare → elems.length ≤ 140737488355327 := fun elems spare e => by
    have h1 := sized_slice hwt (j := 0) rfl (by rw [e]; rfl) Try.underlying22
    have h2 := reachBytes_lt
    rw [hb8] at h1
    omega
  have hw1 : ∀ elems spare, d1 = .slice elems spare → elems.length ≤ 140737488355327 := fun elems spare e => by
    have h1 := sized_slice hwt (j := 1) rfl (by rw [e]; rfl) Try.underlying22
    have h2 := reachBytes_lt
    rw [hb8] at h1
    omega
  obtain ⟨x1, n1, c1, rfl, hl1, hB1⟩ := open_byS (hval 0 _ _ rfl rfl) h0 hw0
  obtain ⟨x2, n2, c2, rfl, hl2, hB2⟩ := open_byS (hval 1 _ _ rfl rfl) h1 hw1
  refine (fnPassing_any x1 x2 n1 c1 n2 c2 W hB1 hB2 hl1 hl2).mono fun e W' ⟨he, hb⟩ => ?_
  subst he
  obtain ⟨rfl, rfl⟩ := trodVars_none hV
  exact ⟨_, rfl, law_post laidOut (by kernel_rfl) (by kernel_rfl) rfl Try.underlying4 (fun _ _ _ _ => rfl) hW' hb⟩

theorem fnPassing_holds : Rows.FnPassingSaid :=
  OpenClaim.holds_of_wide 3 Try.f3 rfl rfl rfl rfl rfl rfl rfl ⟨rfl, rfl, rfl, rfl, rfl⟩ rfl rfl rfl rfl rfl (by kernel_rfl) Try.func3 (by kernel_rfl)
    (of_decide_eq_true (by kernel_rfl)) (by unfold Func.isWrapper; first | (rw [if_pos (by decide +kernel)]; kernel_rfl) | (rw [if_neg (by decide +kernel)]; exact ⟨rfl, rfl⟩))
    (fun os started H enc _ => fnPassing_lifted os started H enc)
end Go.Proofs.Ytjbhmofaackjpaa
