/-
  append(s, make([]int, m)...) onto a row of integers: the translation hands the builtin the number m.
-/
import Derived.Test.YtmefkknkahmihaaApp
import Derived.Lib.AppendZeros
namespace Go.Proofs.Ytmefkknkahmihaa
open Go.RowKit
set_option maxRecDepth 100000

def zeL (m : Nat) : List Int := List.replicate m 0
theorem zeL_len (m : Nat) : (zeL m).length = m := by simp [zeL]
theorem zeL_cells (m : Nat) : (iC (zeL m)).toArray = Builtin.zeroCells #[.int .i64 0] m := by
  apply Array.ext
  · simp [Builtin.zeroCells, iC, zeL]
  · intro i h1 h2
    simp [Builtin.zeroCells, iC, zeL, Nat.mod_one]
theorem run_append_zeros {P : Program} (w : World) (base : Nat) (t tn ty e : TypeId) (i : TypeInfo) (kn : IntKind) (ht : P.underlying t = some (.slice e)) (htn : P.underlying tn = some (.int kn)) (hi : P.info? e = some i) (hz : i.zero = some (.int .i64 0))
    (hsize : i.size = 1) (hby : i.bytes = 8) (v : Value) (n : Nat) (L : List Int) (hown : w.ownsRow base e 1 v n (iC L)) (hn : 0 < n) (m : Nat) (hm0 : 0 < m) (hm : n + m ≤ 1048576) (hbase : base ≤ w.heap.size) :
    ∃ v' w', (Builtin.append_ #[t, tn] ty #[v, .int .i64 (m : Int)]).run P w = .ok v' w' ∧ w'.ownsRow base e 1 v' (n + m) (iC (L ++ zeL m)) ∧ w.grownBy w' v.ownBlock ∧
      (v'.ownBlock = v.ownBlock ∨ v'.ownBlock = some w.heap.size) := by
  have hll : (iC L).length = n := by simpa using hown.1
  have hx : iC (L ++ zeL m) = iC L ++ iC (zeL m) := by simp [iC]
  have hzl : (iC (zeL m)).length = m := by simp [iC, zeL_len]
  have hlen : (iC (L ++ zeL m)).length = (n + m) * 1 := by rw [hx, List.length_append, hll, hzl]; omega
  have hw : IntKind.i64.wrap (m : Int) = m := IntWalk.i64_in _ (by omega)
  have hneg : ¬ ((m : Int) < 0) := by omega
  have h48i : ¬ (281474976710656 < (m : Int) * 8) := by omega
  have hm1 : m ≠ 0 := by omega
  have hmx : maxLen = 9223372036854775807 := by rfl
  rcases hown.2 with ⟨rfl, rfl⟩ | ⟨g, cap, cur, rfl, hbg, hg, hnc, hcm, hcs, htake⟩
  · omega
  · rw [Nat.mul_one] at htake hcs
    by_cases hroom : n + m ≤ cap
    · have hst := run_storeCells_at P g n e (iC (zeL m)) 0 cur w hg (by omega) (by intro u hu; simp [iC] at hu; obtain ⟨a, _, rfl⟩ := hu; rfl)
      simp only [Nat.add_zero] at hst
      have hr : (Builtin.append_ #[t, tn] ty #[.slice (some ⟨g, 0, none⟩) n cap, .int .i64 (m : Int)]).run P w =
          .ok (.slice (some ⟨g, 0, none⟩) (n + m) cap) (w.setRow g (cur.toList.take n ++ iC (zeL m) ++ cur.toList.drop (n + (iC (zeL m)).length)).toArray) := by
        have hzt : (Builtin.zeroCells #[.int .i64 0] m).toList = iC (zeL m) := by rw [← zeL_cells]
        simp [Builtin.append_, run_underlying ht, run_underlying htn, sizeOf, typeInfo, zeroValue, hi, hz, asInt, asIntOf, hw, hneg, hm1, hby, hsize, h48i, hroom, Value.cells, hzt, Addr.add_lit, hst]
      refine ⟨_, _, hr, ⟨hlen, .inr ⟨g, cap, _, rfl, hbg, setRow_heap w g cur _ e _ hg, hroom, hcm, ?_, ?_⟩⟩, ⟨rfl, rfl, rfl, by simp, fun k _ hk => setRow_other w g k _ (fun e => hk (by simp [Value.ownBlock, e]))⟩, Or.inl rfl⟩
      · simp only [List.size_toArray, List.length_append, List.length_take, List.length_drop, Array.length_toList]
        omega
      · rw [htake, hx, ← hx, hx, Nat.mul_one, show n + m = (iC L ++ iC (zeL m)).length by rw [List.length_append, hll, hzl]]
        exact List.take_left
    · have holds : ∀ j u, (iC L)[j]? = some u → w.cell? ((⟨g, 0, none⟩ : Addr).add j) = some u := hown.cells (g := g) rfl
      have hfo := run_firstCells_some (P := P) w.drew 1 n ⟨g, 0, none⟩ n cap (iC L) (by omega) (by simpa using holds)
      have h63' : ¬ (9223372036854775807 < ((n : Int) + (m : Int))) := by omega
      have hfit := growslice_fits (need := n + m) (old := cap) (bytes := 8) (by omega) (by omega)
      have h48' : ¬ (281474976710656 < Builtin.nextslicecap (n + m) cap * 8) := by omega
      have hr : (Builtin.append_ #[t, tn] ty #[.slice (some ⟨g, 0, none⟩) n cap, .int .i64 (m : Int)]).run P w =
          .ok (.slice (some ⟨w.heap.size, 0, none⟩) (n + m) (grownCap w (n + m) cap e))
            (w.drew.alloc (.cells ((iC L).toArray ++ (iC (zeL m)).toArray ++ Builtin.zeroCells #[.int .i64 0] (grownCap w (n + m) cap e - (n + m))) e)) := by
        rw [zeL_cells]
        simp [Builtin.append_, run_underlying ht, run_underlying htn, sizeOf, typeInfo, zeroValue, hi, hz, asInt, asIntOf, hw, hneg, hm1, hby, hsize, h48i, hroom, h63', h48', Question.forced, Value.cells, hfo, newRow, grownCap]
      have hge := grownCap_ge w (n + m) cap e
      have hcm2 : grownCap w (n + m) cap e ≤ maxLen := grownCap_le_maxLen w (n + m) cap e (by omega)
      refine ⟨_, _, hr, ⟨hlen, .inr ⟨w.heap.size, _, _, rfl, hbase, heap_alloc_new w.drew _, hge, hcm2, ?_, ?_⟩⟩, ⟨rfl, rfl, rfl, by simp, fun k hk _ => heap_alloc_old w.drew _ hk⟩, Or.inr rfl⟩
      · simp only [Array.size_append, List.size_toArray, size_zeroCells, hll, hzl]
        show n + m + _ * 1 = _
        omega
      · simp only [Array.toList_append, List.append_assoc]
        rw [hx, ← List.append_assoc, Nat.mul_one, show n + m = (iC L ++ iC (zeL m)).length by rw [List.length_append, hll, hzl]]
        exact List.take_left
theorem step_append_zeros {P : Program} (w : World) {ops : Array Oper} {o : Oper} {a : Act} {K : Act → World → Prop} {Q : Exit → Act → World → Prop} {E : Prop} (hgd : o.guard = none) (s x : Operand) (t tn : TypeId)
    (ho : o.op = .call { callee := .builtin .append, args := #[s, x], argTypes := #[t, tn] })
    (base : Nat) (e : TypeId) (i : TypeInfo) (kn : IntKind) (ht : P.underlying t = some (.slice e)) (htn : P.underlying tn = some (.int kn)) (hi : P.info? e = some i) (hz : i.zero = some (.int .i64 0))
    (hsize : i.size = 1) (hby : i.bytes = 8) (v : Value) (n : Nat) (L : List Int) (hs : a.eval s = v) (hown : w.ownsRow base e 1 v n (iC L)) (hn : 0 < n) (m : Nat) (hm0 : 0 < m) (hx : a.eval x = .int .i64 (m : Int)) (hm : n + m ≤ 1048576) (hbase : base ≤ w.heap.size)
    (h : ∀ v' w', w'.ownsRow base e 1 v' (n + m) (iC (L ++ zeL m)) → w.grownBy w' v.ownBlock → (v'.ownBlock = v.ownBlock ∨ v'.ownBlock = some w.heap.size) → K (a.put o.dst v') w') :
    if Region.wanted o (yielded ops a.tmps) = true then Oper.wp P o a w K Q else E := by
  have hw : Region.wanted o (yielded ops a.tmps) = true := by simp [Region.wanted, hgd]
  rw [if_pos hw]
  obtain ⟨v', w', hrun, h2, h3, h4⟩ := run_append_zeros (P := P) w base t tn o.type e i kn ht htn hi hz hsize hby v n L hown hn m hm0 hm hbase
  unfold Oper.wp execOp
  simp only [ho, resolve, invoke, builtin, Sem.run_bind, Sem.run_pure, Result.andThen_ok, List.map_toArray, List.map_cons, List.map_nil, hs, hx, hrun]
  exact h v' w' h2 h3 h4
end Go.Proofs.Ytmefkknkahmihaa
