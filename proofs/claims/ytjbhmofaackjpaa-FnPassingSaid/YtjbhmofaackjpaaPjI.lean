import Derived.Test.YtjbhmofaackjpaaEdZ
import Derived.Test.YtjbhmofaackjpaaPjA
import Derived.Test.YtjbhmofaackjpaaPjH
import Derived.Test.YtjbhmofaackjpaaApp
import Derived.Lib.AppendZeros
import Derived.Test.YtjbhmofaackjpaaPjD
import Derived.Test.YtjbhmofaackjpaaGeoL
namespace Go.Proofs.Ytjbhmofaackjpaa
open Go.RowKit Go.Shelf
set_option maxRecDepth 100000

theorem fp_pass {S : List (ByteArray × Int)} {M : List (List Int)} : ∀ {n : Nat}, 0 < cpN S M n → ∃ k : Nat, k < n ∧ fpN S M n = atL S k ∧ faB M (atL S k) = false
  | 0, h => by rw [cpN_zero] at h; omega
  | n + 1, h => by
    by_cases h0 : cpN S M n = 0
    · cases hf : faB M (atL S n)
      · exact ⟨n, by omega, fp_hit hf h0, hf⟩
      · rw [cpN_no hf] at h; omega
    · obtain ⟨k, h1, h2, h3⟩ := fp_pass (S := S) (M := M) (n := n) (Nat.pos_of_ne_zero h0)
      exact ⟨k, by omega, (fp_old h0).trans h2, h3⟩
theorem fp_ok {S : List (ByteArray × Int)} {M : List (List Int)} (h : fpB S M = true) : slfB S M (fpL S M) = true ∧ feL M (fpL S M) = [] := by
  unfold fpB at h
  rw [Bool.and_eq_true, decide_eq_true_eq] at h
  obtain ⟨h1, h2⟩ := h
  unfold cpB at h1
  rw [Bool.and_eq_true] at h1
  obtain ⟨k, _, e, hf⟩ := fp_pass h2
  have e2 : fpL S M = atL S k := e
  rw [e2]
  exact ⟨slf_yes h1.1 (at_fitE (el_get h1.1).1 (by omega)), List.eq_nil_of_length_eq_zero (fe_none.2 hf)⟩
theorem fe_up {M : List (List Int)} {V : List Int} : ∀ n, n ≤ M.length → (feUp M V n).length = ((M.take n).filter fun E => fsB E V).length
  | 0, _ => rfl
  | n + 1, h => by
    have ih := fe_up (M := M) (V := V) n (by omega)
    have hM : M[n]? = some (M[n]'(by omega)) := List.getElem?_eq_getElem (by omega)
    rw [take_snoc hM, List.filter_append, List.length_append, ← ih]
    unfold feUp
    cases hf : fsB (M[n]'(by omega)) V
    · rw [pkUp_no (by rw [fe_at hM, hf])]
      simp [hf]
    · rw [pkUp_yes (by rw [fe_at hM, hf])]
      simp [hf]
theorem fe_cnt (M : List (List Int)) (V : List Int) : (feL M V).length = (M.filter fun E => fsB E V).length := by
  have := fe_up (M := M) (V := V) M.length (Nat.le_refl _)
  rw [List.take_length] at this
  exact this
theorem sum_step (V : List Int) (D : List (List Int)) : ∀ M : List (List Int), (fcL M (D ++ [V])).sum = (fcL M D).sum + ((M.filter fun E => fsB E V).length : Int)
  | [] => rfl
  | E :: M => by
    have ih := sum_step V D M
    unfold fcL at ih ⊢
    rw [List.map_cons, List.map_cons, List.sum_cons, List.sum_cons, ih]
    cases hf : fsB E V
    · rw [fcZ_no hf]
      simp [hf]
      omega
    · rw [fcZ_yes hf]
      simp [hf]
      omega
theorem sum_zero : ∀ M : List (List Int), (fcL M []).sum = 0
  | [] => rfl
  | E :: M => by
    have ih := sum_zero M
    unfold fcL at ih ⊢
    rw [List.map_cons, List.sum_cons, ih, fcZ_nil]
    rfl
theorem sum_next {M D : List (List Int)} {r : Nat} {V : List Int} (h : D[r]? = some V) : (fcL M (D.take (r + 1))).sum = (fcL M (D.take r)).sum + ((feL M V).length : Int) := by
  rw [take_snoc h, sum_step, fe_cnt]
theorem sum_bd {B : Int} (hB : 0 ≤ B) : ∀ (L : List Int), (∀ a ∈ L, 0 ≤ a ∧ a ≤ B) → 0 ≤ L.sum ∧ L.sum ≤ B * (L.length : Int)
  | [], _ => by simp
  | a :: r, h => by
    obtain ⟨h1, h2⟩ := sum_bd hB r (fun x hx => h x (List.mem_cons_of_mem _ hx))
    have h3 := h a (List.mem_cons_self ..)
    rw [List.sum_cons, List.length_cons]
    refine ⟨by omega, ?_⟩
    have e : B * ((r.length + 1 : Nat) : Int) = B * (r.length : Int) + B := by push_cast; rw [Int.mul_add, Int.mul_one]
    rw [e]
    omega
theorem fc_bd {M D : List (List Int)} (h1 : M.length ≤ 40) (h2 : D.length ≤ 40) (i : Nat) : 0 ≤ ((fcL M D).take i).sum ∧ ((fcL M D).take i).sum ≤ 1600 := by
  obtain ⟨a, b⟩ := sum_bd (B := 40) (by omega) ((fcL M D).take i) (fun x hx => by
    obtain ⟨E, _, rfl⟩ := List.mem_map.1 (List.mem_of_mem_take hx)
    have := fcZ_bd E D
    omega)
  have hl : ((fcL M D).take i).length ≤ 40 := by rw [List.length_take, fcL_len]; omega
  refine ⟨a, ?_⟩
  have : (40 : Int) * (((fcL M D).take i).length : Int) ≤ 40 * 40 := by omega
  omega
set_option maxHeartbeats 1000000 in
theorem pSum_any (y : Option Addr) (c : Nat) (L : List Int) (w : World) (hb : ∀ i, 0 ≤ (L.take i).sum ∧ (L.take i).sum ≤ 1600) (hm : L.length ≤ 1048576) (hL : Rd w y (iC L)) :
    Calls Try.prog 15 #[.slice y L.length c] w fun e w' => e = .returned (.int .i64 L.sum) ∧ w = w' := by
  have hbh := Lib.hid hb
  have hLh := Lib.hid hL
  clear hb hL
  go_enter Try.func15, Try.ntmps15
  go_wp2
  go_loopw [3, 8] (fun s c wr => ∃ i : Nat, i ≤ L.length ∧ c = .int .i64 i ∧ s = .int .i64 ((L.take i).sum) ∧ w = wr) (fun _ c _ => L.length - (intOf c).toNat)
  case atStart => exact ⟨0, by omega, rfl, rfl, rfl⟩
  case round =>
    obtain ⟨i, hi, rfl, rfl, rfl⟩ := hrel
    obtain ⟨b0, b1⟩ := hbh.out i
    by_cases hlt : i < L.length
    · obtain ⟨bl, off, v, rfl, hbl, hLi, hc0⟩ := hLh.out.int hlt
      have hst : Hid ((L.take (i + 1)).sum = (L.take i).sum + v) := by unfold Hid; rw [take_snoc hLi, List.sum_append]; simp
      obtain ⟨b2, b3⟩ := hbh.out (i + 1)
      rw [hst.out] at b2 b3
      have hlt' : (i : Int) < (L.length : Int) := by omega
      have hi0 : (0 : Int) ≤ (i : Int) := by omega
      clear hLi
      go_wp2
      go_roundw
      case rel => exact ⟨i + 1, by omega, by go_num, by rw [hst.out], by first | rfl | trivial⟩
      case measure => simp [intOf]; omega
    · have hij : i = L.length := by omega
      subst hij
      have hv : Hid ((L.take L.length).sum = L.sum) := by unfold Hid; rw [List.take_length]
      go_wp2
      go_ret
      exact ⟨ret_int hv.out, rfl⟩
theorem nIf_pos {b : Bool} {n : Nat} (hb : b = true) : decide (0 < nIf b (n : Int)) = decide (0 < n) := by
  rw [nIf_t hb, Bool.eq_iff_iff, decide_eq_true_eq, decide_eq_true_eq]
  omega
end Go.Proofs.Ytjbhmofaackjpaa

namespace Go.Proofs.Ytjbhmofaackjpaa
open Go.RowKit
set_option maxRecDepth 100000

def zeL (m : Nat) : List Int := List.replicate m 0
theorem zeL_len (m : Nat) : (zeL m).length = m := by simp [zeL]
theorem zeL_cells (m : Nat) : (iC (zeL m)).toArray = Builtin.zeroCells #[.int .i64 0] m := by
  apply Array.ext
  · simp [Builtin.zeroCells, iC, zeL]
  · intro i h1 h2
    simp [Builtin.zeroCells, iC, zeL, Nat.mod_one]
theorem run_append_zeros {P : Program} (w : World) (base : Nat) (t tn ty e : TypeId) (i : TypeInfo) (kn : IntKind) (ht : P.underlying t = some (.slice e)) (htn : P.underlying tn = some (.int kn)) (hi : P.info? e = some i) (hz : i.zero = some (.int .i64 0))
    (hsize : i.size = 1) (hby : i.bytes = 8) (v : Value) (n : Nat) (L : List Int) (hown : w.ownsRow base e 1 v n (iC L)) (hn : 0 < n) (m : Nat) (hm0 : 0 < m) (hm : n + m ≤ 1048576) (hbase : base ≤ w.heap.size) :
    ∃ v' w', (Builtin.append_ #[t, tn] ty #[v, .int .i64 (m : Int)]).run P w = .ok v' w' ∧ w'.ownsRow base e 1 v' (n + m) (iC (L ++ zeL m)) ∧ w.grownBy w' v.ownBlock ∧
      (v'.ownBlock = v.ownBlock ∨ v'.ownBlock = some w.heap.size) := by
  have hll : (iC L).length = n := by simpa using hown.1
  have hx : iC (L ++ zeL m) = iC L ++ iC (zeL m) := by simp [iC]
  have hzl : (iC (zeL m)).length = m := by simp [iC, zeL_len]
  have hlen : (iC (L ++ zeL m)).length = (n + m) * 1 := by rw [hx, List.length_append, hll, hzl]; omega
  have hw : IntKind.i64.wrap (m : Int) = m := IntWalk.i64_in _ (by omega)
  have hneg : ¬ ((m : Int) < 0) := by omega
  have h48i : ¬ (281474976710656 < (m : Int) * 8) := by omega
  have hm1 : m ≠ 0 := by omega
  have hmx : maxLen = 9223372036854775807 := by rfl
  rcases hown.2 with ⟨rfl, rfl⟩ | ⟨g, cap, cur, rfl, hbg, hg, hnc, hcm, hcs, htake⟩
  · omega
  · rw [Nat.mul_one] at htake hcs
    by_cases hroom : n + m ≤ cap
    · have hst := run_storeCells_at P g n e (iC (zeL m)) 0 cur w hg (by omega) (by intro u hu; simp [iC] at hu; obtain ⟨a, _, rfl⟩ := hu; rfl)
      simp only [Nat.add_zero] at hst
      have hr : (Builtin.append_ #[t, tn] ty #[.slice (some ⟨g, 0, none⟩) n cap, .int .i64 (m : Int)]).run P w =
          .ok (.slice (some ⟨g, 0, none⟩) (n + m) cap) (w.setRow g (cur.toList.take n ++ iC (zeL m) ++ cur.toList.drop (n + (iC (zeL m)).length)).toArray) := by
        have hzt : (Builtin.zeroCells #[.int .i64 0] m).toList = iC (zeL m) := by rw [← zeL_cells]
        simp [Builtin.append_, run_underlying ht, run_underlying htn, sizeOf, typeInfo, zeroValue, hi, hz, asInt, asIntOf, hw, hneg, hm1, hby, hsize, h48i, hroom, Value.cells, hzt, Addr.add_lit, hst]
      refine ⟨_, _, hr, ⟨hlen, .inr ⟨g, cap, _, rfl, hbg, setRow_heap w g cur _ e _ hg, hroom, hcm, ?_, ?_⟩⟩, ⟨rfl, rfl, rfl, by simp, fun k _ hk => setRow_other w g k _ (fun e => hk (by simp [Value.ownBlock, e]))⟩, Or.inl rfl⟩
      · simp only [List.size_toArray, List.length_append, List.length_take, List.length_drop, Array.length_toList]
        omega
      · rw [htake, hx, ← hx, hx, Nat.mul_one, show n + m = (iC L ++ iC (zeL m)).length by rw [List.length_append, hll, hzl]]
        exact List.take_left
    · have holds : ∀ j u, (iC L)[j]? = some u → w.cell? ((⟨g, 0, none⟩ : Addr).add j) = some u := hown.cells (g := g) rfl
      have hfo := run_firstCells_some (P := P) w.drew 1 n ⟨g, 0, none⟩ n cap (iC L) (by omega) (by simpa using holds)
      have h63' : ¬ (9223372036854775807 < ((n : Int) + (m : Int))) := by omega
      have hfit := growslice_fits (need := n + m) (old := cap) (bytes := 8) (by omega) (by omega)
      have h48' : ¬ (281474976710656 < Builtin.nextslicecap (n + m) cap * 8) := by omega
      have hr : (Builtin.append_ #[t, tn] ty #[.slice (some ⟨g, 0, none⟩) n cap, .int .i64 (m : Int)]).run P w =
          .ok (.slice (some ⟨w.heap.size, 0, none⟩) (n + m) (grownCap w (n + m) cap e))
            (w.drew.alloc (.cells ((iC L).toArray ++ (iC (zeL m)).toArray ++ Builtin.zeroCells #[.int .i64 0] (grownCap w (n + m) cap e - (n + m))) e)) := by
        rw [zeL_cells]
        simp [Builtin.append_, run_underlying ht, run_underlying htn, sizeOf, typeInfo, zeroValue, hi, hz, asInt, asIntOf, hw, hneg, hm1, hby, hsize, h48i, hroom, h63', h48', Question.forced, Value.cells, hfo, newRow, grownCap]
      have hge := grownCap_ge w (n + m) cap e
      have hcm2 : grownCap w (n + m) cap e ≤ maxLen := grownCap_le_maxLen w (n + m) cap e (by omega)
      refine ⟨_, _, hr, ⟨hlen, .inr ⟨w.heap.size, _, _, rfl, hbase, heap_alloc_new w.drew _, hge, hcm2, ?_, ?_⟩⟩, ⟨rfl, rfl, rfl, by simp, fun k hk _ => heap_alloc_old w.drew _ hk⟩, Or.inr rfl⟩
      · simp only [Array.size_append, List.size_toArray, size_zeroCells, hll, hzl]
        show n + m + _ * 1 = _
        omega
      · simp only [Array.toList_append, List.append_assoc]
        rw [hx, ← List.append_assoc, Nat.mul_one, show n + m = (iC L ++ iC (zeL m)).length by rw [List.length_append, hll, hzl]]
        exact List.take_left
theorem step_append_zeros {P : Program} (w : World) {ops : Array Oper} {o : Oper} {a : Act} {K : Act → World → Prop} {Q : Exit → Act → World → Prop} {E : Prop} (hgd : o.guard = none) (s x : Operand) (t tn : TypeId)
    (ho : o.op = .call { callee := .builtin .append, args := #[s, x], argTypes := #[t, tn] })
    (base : Nat) (e : TypeId) (i : TypeInfo) (kn : IntKind) (ht : P.underlying t = some (.slice e)) (htn : P.underlying tn = some (.int kn)) (hi : P.info? e = some i) (hz : i.zero = some (.int .i64 0))
    (hsize : i.size = 1) (hby : i.bytes = 8) (v : Value) (n : Nat) (L : List Int) (hs : a.eval s = v) (hown : w.ownsRow base e 1 v n (iC L)) (hn : 0 < n) (m : Nat) (hm0 : 0 < m) (hx : a.eval x = .int .i64 (m : Int)) (hm : n + m ≤ 1048576) (hbase : base ≤ w.heap.size)
    (h : ∀ v' w', w'.ownsRow base e 1 v' (n + m) (iC (L ++ zeL m)) → w.grownBy w' v.ownBlock → (v'.ownBlock = v.ownBlock ∨ v'.ownBlock = some w.heap.size) → K (a.put o.dst v') w') :
    if Region.wanted o (yielded ops a.tmps) = true then Oper.wp P o a w K Q else E := by
  have hw : Region.wanted o (yielded ops a.tmps) = true := by simp [Region.wanted, hgd]
  rw [if_pos hw]
  obtain ⟨v', w', hrun, h2, h3, h4⟩ := run_append_zeros (P := P) w base t tn o.type e i kn ht htn hi hz hsize hby v n L hown hn m hm0 hm hbase
  unfold Oper.wp execOp
  simp only [ho, resolve, invoke, builtin, Sem.run_bind, Sem.run_pure, Result.andThen_ok, List.map_toArray, List.map_cons, List.map_nil, hs, hx, hrun]
  exact h v' w' h2 h3 h4
end Go.Proofs.Ytjbhmofaackjpaa

namespace Go.Proofs.Ytjbhmofaackjpaa
open Go.RowKit
set_option maxRecDepth 100000

/-- Numbers of areas that are drawn. -/
def GeL (L : List Int) : Prop := ∀ m ∈ L, -1 ≤ m ∧ m ≤ 40
theorem GeL.nil : GeL [] := fun m hm => by cases hm
theorem GeL.snoc {L : List Int} {n : Int} (h : GeL L) (h1 : -1 ≤ n) (h2 : n ≤ 40) : GeL (L ++ [n]) := by
  intro m hm
  rcases List.mem_append.1 hm with hm | hm
  · exact h m hm
  · simp at hm
    subst hm
    exact ⟨h1, h2⟩
theorem GeL.set {L : List Int} {n : Int} (h : GeL L) (k : Nat) (h1 : -1 ≤ n) (h2 : n ≤ 40) : GeL (L.set k n) := by
  intro m hm
  rcases List.mem_or_eq_of_mem_set hm with hm | rfl
  · exact h m hm
  · exact ⟨h1, h2⟩
theorem GeL.zeros {L : List Int} (h : GeL L) (m : Nat) : GeL (L ++ zeL m) := by
  intro a ha
  rcases List.mem_append.1 ha with ha | ha
  · exact h a ha
  · have := List.eq_of_mem_replicate ha
    subst this
    omega
/-- The lists that the draws begin with. -/
def gl (i : Nat) : List Int := if i = 0 then [-1, 0, 0] else if i = 1 then [-1, 0, 0, 1, 1, 2, 2] else if i = 2 then [-1, 0, 0, 0, 1, 1, 2, 3] else if i = 3 then [-1, 0, 0, 1, 1] else if i = 4 then [-1] else [-1, 0, 1, 2]
theorem gl_ok (i : Nat) : GeL (gl i) ∧ 1 ≤ (gl i).length ∧ (gl i).length ≤ 8 := by
  unfold gl GeL
  repeat' split
  all_goals refine ⟨?_, by simp, by simp⟩; intro m hm; simp at hm; omega
def GeoPost (b : Nat) (x : Option Addr) (n cap k more lo hi : Nat) (w : World) (e : Ending) (w' : World) : Prop :=
  ∃ (L : List Int) (v : Value) (k' : Nat), e = .returned (.agg #[v]) ∧ GeL L ∧ lo ≤ L.length ∧ L.length ≤ hi ∧ k ≤ k' ∧ k' ≤ k + more ∧ w'.ownsRow w.heap.size 3 1 v L.length (iC L) ∧ CurAt w' b x n cap k' ∧ w.grownBy w' (some b)
theorem own_apart {w : World} {base e size n : Nat} {v : Value} {xs : List Value} (h : w.ownsRow base e size v n xs) {g : Nat} (hne : v.ownBlock ≠ some g) (o : Nat) (u : Value) : (w.setCell ⟨g, o, none⟩ u).ownsRow base e size v n xs :=
  h.kept (grown_setP w ⟨g, o, none⟩ u) (Or.inr hne)
def gA (w : World) (L : List Int) : World := w.alloc (.cells (L.map (Value.int .i64)).toArray 3)
theorem gA_rd (w : World) (L : List Int) (g : Nat) (h : w.heap.size = g) : Rd (gA w L) (some ⟨g, 0, none⟩) (iC L) := by
  subst h
  refine Or.inr ⟨w.heap.size, 0, rfl, by simp [gA], fun j u hj => ?_⟩
  unfold gA
  rw [World.cell?_alloc_at _ _ _ _ rfl, Nat.zero_add, List.getElem?_toArray]
  exact hj
def geoA (s : Nat) : Array Value := #[.slice (some ⟨s + 1, 0, none⟩) 3 3, .slice (some ⟨s + 1 + 1, 0, none⟩) 7 7, .slice (some ⟨s + 1 + 1 + 1, 0, none⟩) 8 8, .slice (some ⟨s + 1 + 1 + 1 + 1, 0, none⟩) 5 5, .slice (some ⟨s + 1 + 1 + 1 + 1 + 1, 0, none⟩) 1 1, .slice (some ⟨s + 1 + 1 + 1 + 1 + 1 + 1, 0, none⟩) 4 4]
theorem geoA_at (s i : Nat) (hi : i < 6) : (geoA s)[i]? = some (.slice (some ⟨s + 1 + i, 0, none⟩) (gl i).length (gl i).length) := by
  rcases (by omega : i = 0 ∨ i = 1 ∨ i = 2 ∨ i = 3 ∨ i = 4 ∨ i = 5) with rfl | rfl | rfl | rfl | rfl | rfl <;> rfl
theorem grown_al {w w' : World} {r : Option Nat} (h : w.grownBy w' r) (o : Obj) : w.grownBy (w'.alloc o) r :=
  ⟨h.os, h.tape, h.output, Nat.le_trans h.size (by simp), fun k hk hne => (heap_alloc_old w' o (Nat.lt_of_lt_of_le hk h.size)).trans (h.block k hk hne)⟩
end Go.Proofs.Ytjbhmofaackjpaa

namespace Go.Proofs.Ytjbhmofaackjpaa
open Go.RowKit
set_option maxRecDepth 100000

def AreaPost (b : Nat) (x : Option Addr) (n cap k : Nat) (w : World) (e : Ending) (w' : World) : Prop :=
  ∃ (v : Int) (k' : Nat), e = .returned (.int .i64 v) ∧ -1 ≤ v ∧ v ≤ 40 ∧ k ≤ k' ∧ k' ≤ k + 4 ∧ CurAt w' b x n cap k' ∧ w.grownBy w' (some b)
/-- What the draw of a geography and an area hands back. -/
def DdpPost (w : World) (e : Ending) (w' : World) : Prop :=
  ∃ (L : List Int) (z : Option Addr) (cz : Nat) (i : Int), e = .returned (.tuple #[.agg #[.slice z L.length cz], .int .i64 i]) ∧ GeL L ∧ L.length ≤ 31 ∧ L.length ≤ cz ∧ (z = none → cz = 0) ∧ -1 ≤ i ∧ i ≤ 40 ∧ (∀ c off, z = some ⟨c, off, none⟩ → w.heap.size ≤ c) ∧ Rd w' z (iC L) ∧ Below w.heap.size w w'
def DmoPost (w : World) (e : Ending) (w' : World) : Prop :=
  ∃ (L : List Int) (z : Option Addr) (cz : Nat) (i j : Int), e = .returned (.tuple #[.agg #[.slice z L.length cz], .int .i64 i, .int .i64 j]) ∧ GeL L ∧ L.length ≤ 31 ∧ L.length ≤ cz ∧ (z = none → cz = 0) ∧ -1 ≤ i ∧ i ≤ 40 ∧ -1 ≤ j ∧ j ≤ 40 ∧ Rd w' z (iC L) ∧ Below w.heap.size w w'
set_option maxHeartbeats 1000000 in
theorem sameInts_any (x y : Option Addr) (c1 c2 : Nat) (L : List Int) (w : World) (hm : L.length ≤ 1048576) (hx : Rd w x (iC L)) (hy : Rd w y (iC L)) :
    Calls Try.prog 10 #[.slice x L.length c1, .slice y L.length c2] w fun e w' => e = .returned (.bool true) ∧ Below w.heap.size w w' := by
  go_enter Try.func10, Try.ntmps10
  go_wp2
  go_loopw [13] (fun c wr => ∃ i : Nat, i ≤ L.length ∧ c = .int .i64 i ∧ Below w.heap.size w wr) (fun c _ => L.length - (intOf c).toNat)
  case atStart => exact ⟨0, by omega, rfl, Below.refl _ _⟩
  case round =>
    obtain ⟨i, hi, rfl, hb⟩ := hrel
    by_cases hlt : i < L.length
    · obtain ⟨bl, off, v, rfl, hbl, hLv, hc0⟩ := (hx.below hb).int hlt
      obtain ⟨bl2, off2, v2, rfl, hbl2, hLv2, hc2⟩ := (hy.below hb).int hlt
      have e : v2 = v := Option.some.inj (hLv2.symm.trans hLv)
      subst e
      clear hLv hLv2
      have hlt' : (i : Int) < (L.length : Int) := by omega
      have hi0 : (0 : Int) ≤ (i : Int) := by omega
      clear hx hy
      go_wp2
      go_quiet (fail)
      go_wp2
      go_roundw
      case rel => exact ⟨i + 1, by omega, by go_num, (by repeat (first | exact Below.refl _ _ | assumption | refine Below.drew ?_ | refine below_drewN ?_ _ | refine Below.alloc' ?_ _ | (refine Below.setCell ?_ (by first | omega | (simp; done) | (simp; omega) | exact Below.size (by assumption) | exact Nat.le_trans (Below.size (by assumption)) (by simp)) _) | (refine Below.via' ?_ (by assumption)) | (refine Below.alloc ?_ (by first | omega | (simp; done) | (simp; omega) | exact Below.size (by assumption) | exact Nat.le_trans (Below.size (by assumption)) (by simp)) _) | (refine Below.via ?_ (by assumption) (by first | omega | (simp; done) | (simp; omega) | exact Below.size (by assumption) | exact Nat.le_trans (Below.size (by assumption)) (by simp)))))⟩
      case measure => simp [intOf]; omega
    · have hij : i = L.length := by omega
      subst hij
      clear hx hy
      go_wp2
      go_ret
      exact ⟨rfl, hb⟩
theorem big_any (x y : Option Addr) (n1 n2 c1 c2 : Nat) (w : World) (h1 : n1 ≤ 9223372036854775807) (h2 : n2 ≤ 9223372036854775807) :
    Calls Try.prog 4 #[.slice x n1 c1, .slice y n2 c2] w fun e w' => e = .returned (.bool (decide (1048576 < n1 + n2))) ∧ w = w' := by
  by_cases ha : 1048576 < n1
  · have hv : Hid (decide (1048576 < n1 + n2) = true) := by unfold Hid; exact decide_eq_true (by omega)
    have ha' : (1048576 : Int) < (n1 : Int) := by omega
    go_enter Try.func4, Try.ntmps4
    go_wp2
    go_ret
    exact ⟨by first | (rw [hv.out]; rfl) | rfl | simp, rfl⟩
  · have ha' : ¬ (1048576 : Int) < (n1 : Int) := by omega
    have hs : IntKind.i64.wrap (1048576 - (n1 : Int)) = 1048576 - (n1 : Int) := IntWalk.i64_in _ (by omega)
    by_cases hc : 1048576 < n1 + n2
    · have hv : Hid (decide (1048576 < n1 + n2) = true) := by unfold Hid; exact decide_eq_true hc
      have hc' : 1048576 - (n1 : Int) < (n2 : Int) := by omega
      go_enter Try.func4, Try.ntmps4
      go_wp2
      go_ret
      exact ⟨by first | (rw [hv.out]; rfl) | rfl | simp, rfl⟩
    · have hv : Hid (decide (1048576 < n1 + n2) = false) := by unfold Hid; exact decide_eq_false hc
      have hc' : ¬ 1048576 - (n1 : Int) < (n2 : Int) := by omega
      go_enter Try.func4, Try.ntmps4
      go_wp2
      go_ret
      exact ⟨by first | (rw [hv.out]; rfl) | rfl | simp, rfl⟩
end Go.Proofs.Ytjbhmofaackjpaa
