/-
  Chapter 8: AddCells: the library's walk through a list's places.
-/
import Derived.Test.YtnmpigedhpdenabAcM
namespace Go.Proofs.Ytnmpigedhpdenab
open Go.RowKit Go.Shelf
set_option maxRecDepth 100000
attribute [local go_sem] Oper.semAt_some

/-- The places of a list. -/
abbrev AlI (L : List Int) := { j : Nat // j < L.length }
def alM {L : List Int} (pre : List (AlI L)) : List Nat := pre.map (·.1)
def alV (L : List Int) (j : Nat) : Int := L.getD j 0
theorem alV_at {L : List Int} {j : Nat} {v : Int} (h : L[j]? = some v) : alV L j = v := by unfold alV; rw [List.getD_eq_getElem?_getD, h]; rfl
set_option maxHeartbeats 2000000 in
/-- The library's walk: for every loop body that keeps what lay below n₀, and the slice's box. -/
theorem al1_in (F : Fence) (n : Nat) (hF : F.fn 174) (hro : F.round = none) (hn : 1 ≤ n) (l Bs n₀ cap : Nat) (y : Option Addr) (L : List Int) (hl6 : L.length ≤ 1048576) (J Jx : List (AlI L) → World → Prop)
    (hY : ∀ pre x W, J pre W → pre.length < L.length → YieldAt F (n - 1) Try.prog l #[.int .i64 (x.1 : Int), .int .i64 (alV L x.1)] W fun e W' =>
      (e = .returned (.bool true) ∧ J (pre ++ [x]) W' ∧ KpB n₀ Bs W W') ∨ (e = .returned (.bool false) ∧ Jx (pre ++ [x]) W'))
    (W : World) (hBs : Boxed W Bs 23 (.slice y L.length cap))
    (hc : ∀ j, j < L.length → ∃ b off, y = some ⟨b, off, none⟩ ∧ b < n₀ ∧ W.cell? ⟨b, off + j, none⟩ = some (.int .i64 (alV L j))) (h0 : J [] W) :
    CallsIn F n Try.prog 174 #[.func (.yield l) #[] #[], .pointer (some ⟨Bs, 0, none⟩)] W fun e W' => (∃ v, e = .returned v) ∧
      ((∃ ys : List (AlI L), alM ys = List.range L.length ∧ J ys W') ∨ (∃ pre : List (AlI L), True ∧ Jx pre W')) := by
  have hcB := hBs.cell
  refine callsIn_of_wp Try.func174 rfl hF ?_ hro
  simp only [Try.ntmps174, List.size_toArray, List.length_cons, List.length_nil, Nat.reduceAdd, Nat.reduceSub, Array.replicate_succ, Array.replicate_zero, List.push_toArray, List.append_toArray, List.nil_append, List.cons_append]
  gi_wp2
  clear hcB
  gi_loopw [7] (fun i wr => ∃ (m : Nat) (pre : List (AlI L)), m ≤ L.length ∧ i = .int .i64 (m : Int) ∧ Hid (pre.map (·.1) = List.range m) ∧ J pre wr ∧ Below n₀ W wr ∧ wr.heap[Bs]? = W.heap[Bs]?)
    (fun i _ => L.length - (intOf i).toNat)
  case atStart => exact ⟨0, [], by omega, by go_num, rfl, h0, Below.refl _ _, rfl⟩
  case round =>
    obtain ⟨m, pre, hm, rfl, hpre, hJs, hnx, hbox⟩ := hrel
    by_cases hlt : m < L.length
    · have hlen : pre.length < L.length := by
        have := congrArg List.length hpre.out
        rw [List.length_map, List.length_range] at this
        omega
      obtain ⟨fn, tmps, assign, body, hy, hR⟩ := hY pre ⟨m, hlt⟩ wr hJs hlen
      dsimp only at hy
      obtain ⟨b, off, rfl, hb, c0⟩ := hc m hlt
      have hc0 := (hnx.cell (p := ⟨b, off + m, none⟩) hb).trans c0
      have hlt' : (m : Int) < (L.length : Int) := by omega
      replace hbox := Lib.hid hbox
      gi_wp2
      refine hR.mono ?_
      rintro e W3 (⟨rfl, hJ3, hk3⟩ | ⟨rfl, hJx3⟩)
      · gi_wp2
        go_roundw
        case rel => exact ⟨m + 1, pre ++ [⟨m, hlt⟩], by omega, by go_num, by unfold Hid; rw [List.map_append, hpre.out, List.range_succ]; rfl, hJ3, hnx.trans hk3.1, hk3.2.trans hbox.out⟩
        case measure => simp [intOf]; omega
      · gi_wp2
        refine bodyPost_ret (results_none rfl _ _ _) rfl ?_
        exact ⟨⟨_, rfl⟩, .inr ⟨_, trivial, hJx3⟩⟩
    · have hij : m = L.length := by omega
      subst hij
      replace hbox := Lib.hid hbox
      gi_wp2
      go_end0
      exact ⟨⟨_, rfl⟩, .inl ⟨pre, hpre.out, hJs⟩⟩
theorem al_stops (F : Fence) (n : Nat) (hF : F.fn 174) (hro : F.round = none) (hn : 1 ≤ n) (Bs n₀ cap : Nat) (y : Option Addr) (L : List Int) (hl6 : L.length ≤ 1048576) (w : World) (hn₀ : n₀ ≤ w.heap.size)
    (hBs : Boxed w Bs 23 (.slice y L.length cap))
    (hc : ∀ j, j < L.length → ∃ b off, y = some ⟨b, off, none⟩ ∧ b < n₀ ∧ w.cell? ⟨b, off + j, none⟩ = some (.int .i64 (alV L j))) :
    SeqStopsK F n Try.prog 174 #[.pointer (some ⟨Bs, 0, none⟩)] (fun x : AlI L => #[.int .i64 (x.1 : Int), .int .i64 (alV L x.1)]) (KpB n₀ Bs)
      (fun ys => alM ys = List.range L.length) (fun _ => True) L.length w := fun l J Jx W hW _ _ hY h0 =>
  al1_in F n hF hro hn l Bs n₀ cap y L hl6 J Jx hY W (boxed_below hBs hW) (fun j hj => by
    obtain ⟨b, off, e, hb, h⟩ := hc j hj
    exact ⟨b, off, e, hb, (hW.cell (p := ⟨b, off + j, none⟩) (Nat.lt_of_lt_of_le hb hn₀)).trans h⟩) h0
theorem al_any (x : Option Addr) (len cap : Nat) (w : World) :
    Calls Try.prog 133 #[.slice x len cap] w fun e w' => e = .returned (.func (.func 174) #[] #[.pointer (some ⟨w.heap.size, 0, none⟩)]) ∧ w' = w.alloc (.cells #[.slice x len cap] 23) := by
  go_enter Try.func133, Try.ntmps133
  go_wp2
  go_ret
  exact ⟨rfl, rfl⟩
end Go.Proofs.Ytnmpigedhpdenab
