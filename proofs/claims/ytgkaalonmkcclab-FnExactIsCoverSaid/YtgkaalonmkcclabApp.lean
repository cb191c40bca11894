/-
  append of a slice that reads as a list onto a row that the call owns: the source at an address or nil; and the copies that are made by it.
-/
import Derived.Test.YtgkaalonmkcclabVar
import Derived.Maps.AppendAt
namespace Go.Proofs.Ytgkaalonmkcclab
open Go.RowKit
set_option maxRecDepth 100000

theorem run_append_rd {P : Program} (w : World) (base : Nat) (t ty e : TypeId) (i : TypeInfo) (z : Value) (size bytes : Nat) (ht : P.underlying t = some (.slice e)) (hi : P.info? e = some i) (hz : i.zero = some z)
    (hsize : i.size = size) (hby : i.bytes = bytes) (hzs : z.cells.size = size) (hsz : 0 < size)
    (v : Value) (n : Nat) (xs : List Value) (hown : w.ownsRow base e size v n xs) (A : Option Addr) (m c : Nat) (hc : m ≤ c) (hnil : A = none → c = 0) (news : List Value) (hl : news.length = m * size) (hr : Rd w A news) (h1 : ∀ u ∈ news, u.oneCell' = true)
    (h63 : n + m ≤ maxLen) (hbytes : (n + m) * bytes ≤ 140737488355328) (hbase : base ≤ w.heap.size) :
    ∃ v' w', (Builtin.append_ #[t, t] ty #[v, .slice A m c]).run P w = .ok v' w' ∧ w'.ownsRow base e size v' (n + m) (xs ++ news) ∧ w.grownBy w' v.ownBlock ∧
      (v'.ownBlock = v.ownBlock ∨ v'.ownBlock = some w.heap.size) := by
  cases A with
  | none =>
    have hc0 : c = 0 := hnil rfl
    subst hc0
    have hm : m = 0 := by omega
    subst hm
    have hn : news = [] := List.eq_nil_of_length_eq_zero (by simpa using hl)
    subst hn
    exact ⟨v, w, run_append_owned_none (P := P) w base t ty e i size ht hi v n xs hown, by simpa using hown, World.grownBy.refl _ _, Or.inl rfl⟩
  | some ad =>
    have hcells : ∀ j u, news[j]? = some u → w.cell? (ad.add j) = some u := by
      rcases hr with h0 | ⟨b, off, e1, _, h2⟩
      · subst h0
        intro j u hj
        simp at hj
      · injection e1 with e1
        subst e1
        intro j u hj
        rw [addr_add]
        exact h2 j u hj
    obtain ⟨v', w', r1, r2, r3, _, r5⟩ := run_append_own_at (P := P) w base t ty e i z size bytes ht hi hz hsize hby hzs hsz v n xs hown ad m c news hl hcells h1 h63 hbytes hbase
    exact ⟨v', w', r1, r2, r3, r5⟩
theorem wpList_append_rd {P : Program} (w : World) {ops : Array Oper} {rest : List Oper} {o : Oper} {a : Act} {Q : Exit → Act → World → Prop} (hgd : o.guard = none) (s x : Operand) (t : TypeId)
    (ho : o.op = .call { callee := .builtin .append, args := #[s, x], argTypes := #[t, t] })
    (base : Nat) (e : TypeId) (i : TypeInfo) (z : Value) (size bytes : Nat) (ht : P.underlying t = some (.slice e)) (hi : P.info? e = some i) (hz : i.zero = some z)
    (hsize : i.size = size) (hby : i.bytes = bytes) (hzs : z.cells.size = size) (hsz : 0 < size)
    (v : Value) (n : Nat) (xs : List Value) (hs : a.eval s = v) (hown : w.ownsRow base e size v n xs)
    (A : Option Addr) (m c : Nat) (hx : a.eval x = .slice A m c) (hc : m ≤ c) (hnil : A = none → c = 0) (news : List Value) (hl : news.length = m * size) (hr : Rd w A news) (h1 : ∀ u ∈ news, u.oneCell' = true)
    (h63 : n + m ≤ maxLen) (hbytes : (n + m) * bytes ≤ 140737488355328) (hbase : base ≤ w.heap.size)
    (h : ∀ v' w', w'.ownsRow base e size v' (n + m) (xs ++ news) → w.grownBy w' v.ownBlock → (v'.ownBlock = v.ownBlock ∨ v'.ownBlock = some w.heap.size) → wpList P ops Q rest (a.put o.dst v') w') : wpList P ops Q (o :: rest) a w := by
  refine wpList_plain hgd fun K hK => ?_
  obtain ⟨v', w', hrun, h2, h3, h4⟩ := run_append_rd (P := P) w base t o.type e i z size bytes ht hi hz hsize hby hzs hsz v n xs hown A m c hc hnil news hl hr h1 h63 hbytes hbase
  unfold Oper.wp execOp
  simp only [ho, resolve, invoke, builtin, Sem.run_bind, Sem.run_pure, Result.andThen_ok, List.map_toArray, List.map_cons, List.map_nil, hs, hx, hrun]
  exact hK _ _ (h v' w' h2 h3 h4)

theorem own_eq {w : World} {base e size n n' : Nat} {v : Value} {xs ys : List Value} (h : w.ownsRow base e size v n xs) (hn : n = n') (hx : xs = ys) : w.ownsRow base e size v n' ys := by subst hn hx; exact h
theorem append_below {w w1 w2 : World} {v v' : Value} {o : Obj} (hb : Below w.heap.size w w1) (hv : ∀ k, v.ownBlock = some k → w.heap.size ≤ k) (hg : (w1.alloc o).grownBy w2 v.ownBlock) (hw : v'.ownBlock = v.ownBlock ∨ v'.ownBlock = some (w1.alloc o).heap.size) :
    Below w.heap.size w w2 ∧ ∀ k, v'.ownBlock = some k → w.heap.size ≤ k := by
  have hs := hb.size
  refine ⟨(hb.alloc hs _).grown hg (by simp; omega) hv, fun k hk => ?_⟩
  rcases hw with h | h
  · rw [h] at hk; exact hv k hk
  · rw [h] at hk; injection hk with hk; simp at hk; omega
theorem append_below0 {w w1 w2 : World} {v v' : Value} (hb : Below w.heap.size w w1) (hv : ∀ k, v.ownBlock = some k → w.heap.size ≤ k) (hg : w1.grownBy w2 v.ownBlock) (hw : v'.ownBlock = v.ownBlock ∨ v'.ownBlock = some w1.heap.size) :
    Below w.heap.size w w2 ∧ ∀ k, v'.ownBlock = some k → w.heap.size ≤ k := by
  have hs := hb.size
  refine ⟨hb.grown hg hs hv, fun k hk => ?_⟩
  rcases hw with h | h
  · rw [h] at hk; exact hv k hk
  · rw [h] at hk; injection hk with hk; omega
theorem Rd.grown0 {w w' : World} {x : Option Addr} {xs : List Value} {r : Option Nat} (h : Rd w x xs) (hg : w.grownBy w' r) (hr : ∀ k, r = some k → w.heap.size ≤ k) : Rd w' x xs := by
  rcases h with h | ⟨b, off, e, hl, hc⟩
  · exact Or.inl h
  · exact Or.inr ⟨b, off, e, Nat.lt_of_lt_of_le hl hg.size, fun j u hj => (World.cell?_of_block (hg.block b hl (fun e2 => by have := hr b e2.symm; omega))).trans (hc j u hj)⟩

/-- A slice that the call hands back: it owns its row. -/
def Ret (w w' : World) (e : TypeId) (size : Nat) (v : Value) (n : Nat) (xs : List Value) : Prop := w'.ownsRow w.heap.size e size v n xs ∧ Below w.heap.size w w'

set_option maxHeartbeats 1000000 in
theorem l1Own_any (x : Option Addr) (cap : Nat) (L : List Int) (w : World) (hm : L.length ≤ 1048576) (hc : L.length ≤ cap) (hnil : x = none → cap = 0) (hL : Rd w x (iC L)) :
    Calls Try.prog 91 #[.slice x L.length cap] w (fun e w' => ∃ v, e = .returned v ∧ Ret w w' 3 1 v L.length (iC L)) := by
  obtain ⟨i0, hi, hz0, hz1, hz2⟩ := info_parts Try.infoInt
  have ho0 := World.ownsRow_made (e := 3) (size := 1) w #[] 0 (Nat.le_refl w.heap.size) (by unfold maxLen; omega) (by simp)
  have hr0 := Lib.hid (hL.alloc (.cells #[] 3))
  clear hL
  go_enter Try.func91, Try.ntmps91
  go_wp2_with (at_builtin; refine wpList_append_rd _ rfl _ _ 24 rfl w.heap.size 3 i0 (.int .i64 0) 1 8 Try.underlying24 hi hz0 hz1 hz2 rfl (by decide) _ 0 [] rfl ho0 _ L.length cap rfl hc hnil (iC L) (by first | rw [iC_len, Nat.mul_one] | rw [vC_len]) hr0.out (by first | exact iC_one L | exact vC_one L) (by unfold maxLen; omega) (by omega) (by simp) ?_; intro v' w1 hown hgrow hwhere)
  have hb1 : Below w.heap.size w w1 := ((Below.refl _ _).alloc (Nat.le_refl _) _).grown hgrow (by simp) (fun k hk => by injection hk with hk; exact Nat.le_of_eq hk)
  rw [Nat.zero_add, List.nil_append] at hown
  replace hown := Lib.hid hown
  go_ret
  exact ⟨_, rfl, hown.out, hb1⟩

set_option maxHeartbeats 1000000 in
theorem cloneInt_any (x : Option Addr) (cap : Nat) (L : List Int) (w : World) (hm : L.length ≤ 1048576) (hc : L.length ≤ cap) (hnil : x = none → cap = 0) (hL : Rd w x (iC L)) :
    Calls Try.prog 154 #[.slice x L.length cap] w (fun e w' => ∃ v, e = .returned v ∧ Ret w w' 3 1 v L.length (iC L)) := by
  have q22 := fun (w : World) (a : Option Addr) (n c n' c' : Nat) => Lib.run_eql_slice_nil (P := Try.prog) w 24 3 a n c n' c' Try.underlying24
  by_cases hx : x = none
  · have h0 := hnil hx
    have hl0 : L = [] := List.eq_nil_of_length_eq_zero (by omega)
    subst hl0 h0 hx
    clear hL
    go_enter Try.func154, Try.ntmps154
    go_wp2
    go_ret
    exact ⟨_, rfl, World.ownsRow_nil _ _ _ _, (by repeat (first | exact Below.refl _ _ | assumption | refine Below.drew ?_ | refine below_drewN ?_ _ | refine Below.alloc' ?_ _ | (refine Below.setCell ?_ (by first | omega | (simp; done) | (simp; omega) | exact Below.size (by assumption) | exact Nat.le_trans (Below.size (by assumption)) (by simp)) _) | (refine Below.via' ?_ (by assumption)) | (refine Below.alloc ?_ (by first | omega | (simp; done) | (simp; omega) | exact Below.size (by assumption) | exact Nat.le_trans (Below.size (by assumption)) (by simp)) _) | (refine Below.via ?_ (by assumption) (by first | omega | (simp; done) | (simp; omega) | exact Below.size (by assumption) | exact Nat.le_trans (Below.size (by assumption)) (by simp)))))⟩
  obtain ⟨ad, rfl⟩ : ∃ ad, x = some ad := by
    cases x with
    | none => exact absurd rfl hx
    | some ad => exact ⟨ad, rfl⟩
  clear hx
  obtain ⟨i0, hi, hz0, hz1, hz2⟩ := info_parts Try.infoInt
  have ho0 := World.ownsRow_made (e := 3) (size := 1) w #[] 0 (Nat.le_refl w.heap.size) (by unfold maxLen; omega) (by simp)
  have hr0 := Lib.hid (hL.alloc (.cells #[] 3))
  clear hL
  go_enter Try.func154, Try.ntmps154
  go_wp2_with (at_builtin; refine wpList_append_rd _ rfl _ _ 24 rfl w.heap.size 3 i0 (.int .i64 0) 1 8 Try.underlying24 hi hz0 hz1 hz2 rfl (by decide) _ 0 [] rfl ho0 _ L.length cap rfl hc hnil (iC L) (by first | rw [iC_len, Nat.mul_one] | rw [vC_len]) hr0.out (by first | exact iC_one L | exact vC_one L) (by unfold maxLen; omega) (by omega) (by simp) ?_; intro v' w1 hown hgrow hwhere)
  have hb1 : Below w.heap.size w w1 := ((Below.refl _ _).alloc (Nat.le_refl _) _).grown hgrow (by simp) (fun k hk => by injection hk with hk; exact Nat.le_of_eq hk)
  rw [Nat.zero_add, List.nil_append] at hown
  replace hown := Lib.hid hown
  go_ret
  exact ⟨_, rfl, hown.out, hb1⟩
set_option maxHeartbeats 1000000 in
theorem cloneVar_any (x : Option Addr) (cap : Nat) (L : List (ByteArray × Int)) (w : World) (hm : L.length ≤ 1048576) (hc : L.length ≤ cap) (hnil : x = none → cap = 0) (hL : Rd w x (vC L)) :
    Calls Try.prog 93 #[.slice x L.length cap] w (fun e w' => ∃ v, e = .returned v ∧ Ret w w' 93 2 v L.length (vC L)) := by
  have q22 := fun (w : World) (a : Option Addr) (n c n' c' : Nat) => Lib.run_eql_slice_nil (P := Try.prog) w 29 93 a n c n' c' Try.underlying29
  by_cases hx : x = none
  · have h0 := hnil hx
    have hl0 : L = [] := List.eq_nil_of_length_eq_zero (by omega)
    subst hl0 h0 hx
    clear hL
    go_enter Try.func93, Try.ntmps93
    go_wp2
    go_ret
    exact ⟨_, rfl, World.ownsRow_nil _ _ _ _, (by repeat (first | exact Below.refl _ _ | assumption | refine Below.drew ?_ | refine below_drewN ?_ _ | refine Below.alloc' ?_ _ | (refine Below.setCell ?_ (by first | omega | (simp; done) | (simp; omega) | exact Below.size (by assumption) | exact Nat.le_trans (Below.size (by assumption)) (by simp)) _) | (refine Below.via' ?_ (by assumption)) | (refine Below.alloc ?_ (by first | omega | (simp; done) | (simp; omega) | exact Below.size (by assumption) | exact Nat.le_trans (Below.size (by assumption)) (by simp)) _) | (refine Below.via ?_ (by assumption) (by first | omega | (simp; done) | (simp; omega) | exact Below.size (by assumption) | exact Nat.le_trans (Below.size (by assumption)) (by simp)))))⟩
  obtain ⟨ad, rfl⟩ : ∃ ad, x = some ad := by
    cases x with
    | none => exact absurd rfl hx
    | some ad => exact ⟨ad, rfl⟩
  clear hx
  obtain ⟨i0, hi, hz0, hz1, hz2⟩ := info_parts Try.infoVar
  have ho0 := World.ownsRow_made (e := 93) (size := 2) w #[] 0 (Nat.le_refl w.heap.size) (by unfold maxLen; omega) (by simp)
  have hr0 := Lib.hid (hL.alloc (.cells #[] 93))
  clear hL
  go_enter Try.func93, Try.ntmps93
  go_wp2_with (at_builtin; refine wpList_append_rd _ rfl _ _ 29 rfl w.heap.size 93 i0 (.agg #[.string ⟨#[]⟩, .int .i64 0]) 2 24 Try.underlying29 hi hz0 hz1 hz2 rfl (by decide) _ 0 [] rfl ho0 _ L.length cap rfl hc hnil (vC L) (by first | rw [iC_len, Nat.mul_one] | rw [vC_len]) hr0.out (by first | exact iC_one L | exact vC_one L) (by unfold maxLen; omega) (by omega) (by simp) ?_; intro v' w1 hown hgrow hwhere)
  have hb1 : Below w.heap.size w w1 := ((Below.refl _ _).alloc (Nat.le_refl _) _).grown hgrow (by simp) (fun k hk => by injection hk with hk; exact Nat.le_of_eq hk)
  rw [Nat.zero_add, List.nil_append] at hown
  replace hown := Lib.hid hown
  go_ret
  exact ⟨_, rfl, hown.out, hb1⟩
end Go.Proofs.Ytgkaalonmkcclab
