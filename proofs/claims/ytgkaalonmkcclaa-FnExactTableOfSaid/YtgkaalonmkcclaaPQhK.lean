import Derived.Test.YtgkaalonmkcclaaPQhC
import Derived.Test.YtgkaalonmkcclaaEdV
import Derived.Test.YtgkaalonmkcclaaApp
import Derived.Deep.RegionHeld
import Derived.Deep.RegionWith
import Derived.Test.YtgkaalonmkcclaaPQhG
import Derived.Test.YtgkaalonmkcclaaEdI
import Derived.Test.YtgkaalonmkcclaaPQhJ
import Derived.Test.YtgkaalonmkcclaaRecM
namespace Go.Proofs.Ytgkaalonmkcclaa
open Go.RowKit
set_option maxRecDepth 100000

/-- A list with another's first n elements. -/
def kK (A W : List Int) (n : Nat) : List Int := A.take n ++ W.drop n
theorem kK_zero (A W : List Int) : kK A W 0 = W := by unfold kK; rw [List.take_zero, List.drop_zero, List.nil_append]
theorem kK_all {A W : List Int} {n : Nat} (h1 : A.length = n) (h2 : W.length = n) : kK A W n = A := by
  unfold kK
  rw [List.take_of_length_le (by omega), List.drop_of_length_le (by omega), List.append_nil]
theorem kK_len {A W : List Int} {n : Nat} (h1 : n ≤ A.length) (h2 : n ≤ W.length) : (kK A W n).length = W.length := by
  unfold kK
  rw [List.length_append, List.length_take, List.length_drop]
  omega
theorem kK_get {A W : List Int} {n : Nat} (h1 : n ≤ A.length) {x : Int} (h2 : W[n]? = some x) : (kK A W n)[n]? = some x := by
  unfold kK
  rw [List.getElem?_append_right (by rw [List.length_take]; omega), List.length_take, List.getElem?_drop, ← h2]
  congr 1
  omega
theorem kK_step {A W : List Int} {n : Nat} {v : Int} (h1 : A[n]? = some v) (h2 : n < W.length) : (kK A W n).set n v = kK A W (n + 1) := by
  have hA := (List.getElem?_eq_some_iff.1 h1).1
  unfold kK
  rw [take_snoc h1, List.drop_eq_getElem_cons h2, List.append_assoc, List.singleton_append]
  rw [List.set_append_right _ _ (by rw [List.length_take]; omega)]
  congr 1
  rw [List.length_take, show n - min n A.length = 0 by omega]
  rfl
theorem kK_same {A W : List Int} {n : Nat} {v : Int} (h1 : A[n]? = some v) (h2 : W[n]? = some v) : kK A W (n + 1) = kK A W n := by
  have hA := (List.getElem?_eq_some_iff.1 h1).1
  have hW := (List.getElem?_eq_some_iff.1 h2).1
  rw [← kK_step h1 hW]
  apply List.ext_getElem?
  intro j
  rw [List.getElem?_set]
  split
  · subst_vars
    rw [if_pos (by rw [kK_len (by omega) (by omega)]; exact hW), kK_get (by omega) h2]
  · rfl

/-- The sets of a normal table: 0 in place of all levels. -/
def nwL (S : List (ByteArray × Int)) (W : List Int) : List Int := List.zipWith (fun q x => if x = flZ q.2 then 0 else x) S W
section
variable {S : List (ByteArray × Int)} {W : List Int} {i : Nat} {nm : ByteArray} {lv x : Int}
theorem nwL_len (h : W.length = S.length) : (nwL S W).length = S.length := by unfold nwL; rw [List.length_zipWith, h, Nat.min_self]
theorem nwL_len2 (h : W.length = S.length) : (nwL S W).length = W.length := by rw [nwL_len h, h]
theorem nwL_yes (h1 : S[i]? = some (nm, lv)) (h2 : W[i]? = some x) (h : x = flZ lv) : (nwL S W)[i]? = some 0 := by
  unfold nwL
  rw [List.getElem?_zipWith, h1, h2]
  exact congrArg some (if_pos h)
theorem nwL_no (h1 : S[i]? = some (nm, lv)) (h2 : W[i]? = some x) (h : x ≠ flZ lv) : (nwL S W)[i]? = some x := by
  unfold nwL
  rw [List.getElem?_zipWith, h1, h2]
  exact congrArg some (if_neg h)
theorem nwL_i64 (h : ∀ n ∈ W, IsI64 n) : ∀ n ∈ nwL S W, IsI64 n := by
  intro n hn
  obtain ⟨j, hj, rfl⟩ := List.getElem_of_mem hn
  have hj' := hj
  unfold nwL at hj'
  rw [List.length_zipWith] at hj'
  have e1 : S[j]? = some (S[j].1, S[j].2) := List.getElem?_eq_getElem (by omega)
  have e2 : W[j]? = some W[j] := List.getElem?_eq_getElem (by omega)
  have e3 : (nwL S W)[j]? = some (nwL S W)[j] := List.getElem?_eq_getElem hj
  by_cases k : W[j] = flZ S[j].2
  · have := Option.some.inj (e3.symm.trans (nwL_yes e1 e2 k))
    rw [this]
    unfold IsI64
    omega
  · have := Option.some.inj (e3.symm.trans (nwL_no e1 e2 k))
    rw [this]
    exact h _ (List.getElem_mem _)
end
/-- What NormalTable answers. -/
def ntR (P : List Int) (S : List (ByteArray × Int)) (l : Int) (F W : List Int) (m : Int) : Int × List Int × List Int × Int := if tgB P S l F W m then (l, F, nwL S W, m) else (0, [], [], 0)
theorem ntR_yes {P : List Int} {S : List (ByteArray × Int)} {l : Int} {F W : List Int} {m : Int} (h : tgB P S l F W m = true) : ntR P S l F W m = (l, F, nwL S W, m) := by unfold ntR; rw [h]; rfl
theorem ntR_no {P : List Int} {S : List (ByteArray × Int)} {l : Int} {F W : List Int} {m : Int} (h : tgB P S l F W m = false) : ntR P S l F W m = (0, [], [], 0) := by unfold ntR; rw [h]; rfl
/-- A table's two lists that are owned: apart from each other, whichever lies first. -/
def OwY (w : World) (lo hi : Nat) (u v : Value) (F W : List Int) : Prop := ∃ a b c d, lo ≤ a ∧ b ≤ hi ∧ lo ≤ c ∧ d ≤ hi ∧ (b ≤ c ∨ d ≤ a) ∧ OwR w a b 3 1 u F.length (iC F) ∧ OwR w c d 3 1 v W.length (iC W)
section
variable {w w' : World} {lo hi : Nat} {u v : Value} {F W : List Int}
theorem OwY.below (h : OwY w lo hi u v F W) (hb : Below w.heap.size w w') : OwY w' lo hi u v F W := by
  obtain ⟨a, b, c, d, h1, h2, h3, h4, h5, p, q⟩ := h
  exact ⟨a, b, c, d, h1, h2, h3, h4, h5, p.below hb, q.below hb⟩
theorem OwY.off {lo2 hi2 : Nat} (h : OwY w lo hi u v F W) (hg : Off lo2 hi2 w w') (hne : hi ≤ lo2 ∨ hi2 ≤ lo) : OwY w' lo hi u v F W := by
  obtain ⟨a, b, c, d, h1, h2, h3, h4, h5, p, q⟩ := h
  exact ⟨a, b, c, d, h1, h2, h3, h4, h5, p.off hg (by omega), q.off hg (by omega)⟩
theorem OwY.keep {r : Option Nat} (h : OwY w lo hi u v F W) (hg : w.grownBy w' r) (hr : ∀ k, r = some k → k < lo ∨ hi ≤ k) : OwY w' lo hi u v F W := by
  obtain ⟨a, b, c, d, h1, h2, h3, h4, h5, p, q⟩ := h
  exact ⟨a, b, c, d, h1, h2, h3, h4, h5, p.keep hg (fun k hk => by have := hr k hk; omega), q.keep hg (fun k hk => by have := hr k hk; omega)⟩
theorem OwY.more {lo' hi' : Nat} (h : OwY w lo hi u v F W) (h1' : lo' ≤ lo) (h2' : hi ≤ hi') : OwY w lo' hi' u v F W := by
  obtain ⟨a, b, c, d, h1, h2, h3, h4, h5, p, q⟩ := h
  exact ⟨a, b, c, d, by omega, by omega, by omega, by omega, h5, p, q⟩
theorem OwY.of (h : OwT w lo hi u v F W) : OwY w lo hi u v F W := by
  obtain ⟨mid, h1, h2, a, b⟩ := h
  exact ⟨lo, mid, mid, hi, Nat.le_refl _, h2, h1, Nat.le_refl _, Or.inl (Nat.le_refl _), a, b⟩
theorem OwY.form (h : OwY w lo hi u v F W) : ∃ x c z d, u = .slice x F.length c ∧ v = .slice z W.length d := by
  obtain ⟨a, b, c, d, -, -, -, -, -, p, q⟩ := h
  obtain ⟨x, c, rfl, -⟩ := p.form
  obtain ⟨z, d, rfl, -⟩ := q.form
  exact ⟨x, c, z, d, rfl, rfl⟩
end
theorem OwY.rd {w : World} {lo hi : Nat} {x z : Option Addr} {c d : Nat} {F W : List Int} (h : OwY w lo hi (.slice x F.length c) (.slice z W.length d) F W) : Rd w x (iC F) ∧ Rd w z (iC W) := by
  obtain ⟨_, _, _, _, -, -, -, -, -, p, q⟩ := h
  exact ⟨p.rd, q.rd⟩
theorem TIn.of_owY {w : World} {lo hi : Nat} {x z : Option Addr} {c d : Nat} {F W : List Int} (h : OwY w lo hi (.slice x F.length c) (.slice z W.length d) F W) (hF : F.length ≤ 1048576) (hW : W.length ≤ 1048576) (hnF : ∀ n ∈ F, IsI64 n) (hnW : ∀ n ∈ W, IsI64 n) : TIn w x z F W := ⟨⟨hF, hnF, h.rd.1⟩, ⟨hW, hnW, h.rd.2⟩⟩
theorem grown_setN (W : World) (p : Addr) (v : Value) : W.grownBy (W.setCell p v) (some p.block) :=
  ⟨rfl, rfl, rfl, by simp [World.setCell], fun k _ hk => Below.heap_setCell _ _ _ k (fun e => hk (by rw [e]))⟩
theorem OwR.set {w : World} {lo hi size n : Nat} {e : TypeId} {u : Value} {xs : List Value} (h : OwR w lo hi e size u n xs) (p : Addr) (v : Value) (hp : p.block < lo ∨ hi ≤ p.block) : OwR (w.setCell p v) lo hi e size u n xs :=
  h.keep (grown_setN w p v) (fun k hk => by obtain rfl := Option.some.inj hk; exact hp)
/-- A table, handed back. -/
def RetT (l : Int) (F W : List Int) (m : Int) (w : World) (e : Ending) (w' : World) : Prop :=
  ∃ x c z d, e = .returned (.agg #[.int .i64 l, .slice x F.length c, .slice z W.length d, .int .i64 m]) ∧ OwY w' w.heap.size w'.heap.size (.slice x F.length c) (.slice z W.length d) F W ∧ Below w.heap.size w w'
/-- A table and a Bool, handed back. -/
def RetTB (R : Int × List Int × List Int × Int) (b : Bool) (w : World) (e : Ending) (w' : World) : Prop :=
  ∃ x c z d, e = .returned (.tuple #[.agg #[.int .i64 R.1, .slice x R.2.1.length c, .slice z R.2.2.1.length d, .int .i64 R.2.2.2], .bool b]) ∧ OwY w' w.heap.size w'.heap.size (.slice x R.2.1.length c) (.slice z R.2.2.1.length d) R.2.1 R.2.2.1 ∧ Below w.heap.size w w'
theorem retTB_no {b : Bool} {w w' : World} (k : b = false) (hB : Below w.heap.size w w') : RetTB (0, [], [], 0) b w (.returned (.tuple #[.agg #[.int .i64 0, .slice none 0 0, .slice none 0 0, .int .i64 0], .bool false])) w' := by
  subst k
  exact ⟨none, 0, none, 0, rfl, ⟨w.heap.size, w.heap.size, w.heap.size, w.heap.size, Nat.le_refl _, hB.size, Nat.le_refl _, hB.size, Or.inl (Nat.le_refl _), ⟨World.ownsRow_nil _ _ _ _, fun k hk => by cases hk⟩, ⟨World.ownsRow_nil _ _ _ _, fun k hk => by cases hk⟩⟩, hB⟩
end Go.Proofs.Ytgkaalonmkcclaa

namespace Go.Proofs.Ytgkaalonmkcclaa
open Go.RowKit
set_option maxRecDepth 100000

theorem TQ.set {w : World} {g : Nat} {l : Int} {x : Option Addr} {n c : Nat} {z : Option Addr} {k d : Nat} {m : Int} (h : TQ w g l x n c z k d m) (p : Addr) (v : Value) (hp : g ≠ p.block) : TQ (w.setCell p v) g l x n c z k d m := h.grown (grown_setN w p v) (fun e => hp (Option.some.inj e))
theorem ret_t {a b : Value} (h : a = b) : Ending.returned a = .returned b := by rw [h]
set_option maxHeartbeats 4000000 in
theorem nOwn_any (l : Int) (x z : Option Addr) (c d : Nat) (F W : List Int) (m : Int) (w : World) (hmF : F.length ≤ 1048576) (hmW : W.length ≤ 1048576) (hcF : F.length ≤ c) (hnF : x = none → c = 0) (hcW : W.length ≤ d) (hnW : z = none → d = 0) (hF : Rd w x (iC F)) (hW : Rd w z (iC W)) :
    Calls Try.prog 128 #[.agg #[.int .i64 l, .slice x F.length c, .slice z W.length d, .int .i64 m]] w (RetT l F W m w) := by
  have hFh := Lib.hid hF
  have hWh := Lib.hid hW
  clear hF hW
  have q0 := TQ.new w l x F.length c z W.length d m 37
  obtain ⟨W2, hW2⟩ : ∃ W2, W2 = (w.alloc (.cells #[.int .i64 l, .slice x F.length c, .slice z W.length d, .int .i64 m] 37)).alloc (.cells #[.int .i64 0, .slice none 0 0, .slice none 0 0, .int .i64 0] 37) := ⟨_, rfl⟩
  have q2 : TQ W2 w.heap.size l x F.length c z W.length d m := by rw [hW2]; exact q0.below (by repeat (first | exact Below.refl _ _ | assumption | refine Below.drew ?_ | refine below_drewN ?_ _ | refine Below.alloc' ?_ _ | (refine Below.setCell ?_ (by first | omega | (simp; done) | (simp; omega) | exact Below.size (by assumption) | exact Nat.le_trans (Below.size (by assumption)) (by simp)) _) | (refine Below.via' ?_ (by assumption)) | (refine Below.alloc ?_ (by first | omega | (simp; done) | (simp; omega) | exact Below.size (by assumption) | exact Nat.le_trans (Below.size (by assumption)) (by simp)) _) | (refine Below.via ?_ (by assumption) (by first | omega | (simp; done) | (simp; omega) | exact Below.size (by assumption) | exact Nat.le_trans (Below.size (by assumption)) (by simp)))))
  have B2 : Below w.heap.size w W2 := by rw [hW2]; exact (by repeat (first | exact Below.refl _ _ | assumption | refine Below.drew ?_ | refine below_drewN ?_ _ | refine Below.alloc' ?_ _ | (refine Below.setCell ?_ (by first | omega | (simp; done) | (simp; omega) | exact Below.size (by assumption) | exact Nat.le_trans (Below.size (by assumption)) (by simp)) _) | (refine Below.via' ?_ (by assumption)) | (refine Below.alloc ?_ (by first | omega | (simp; done) | (simp; omega) | exact Below.size (by assumption) | exact Nat.le_trans (Below.size (by assumption)) (by simp)) _) | (refine Below.via ?_ (by assumption) (by first | omega | (simp; done) | (simp; omega) | exact Below.size (by assumption) | exact Nat.le_trans (Below.size (by assumption)) (by simp)))))
  have zz := Wb.new (w.alloc (.cells #[.int .i64 l, .slice x F.length c, .slice z W.length d, .int .i64 m] 37)) 37 #[.int .i64 0, .slice none 0 0, .slice none 0 0, .int .i64 0]
  rw [← hW2, World.size_alloc] at zz
  have hs2 : W2.heap.size = w.heap.size + 1 + 1 := by rw [hW2]; simp
  replace zz := Lib.hid zz
  replace hW2 := Lib.hid hW2
  replace q2 := Lib.hid q2
  clear q0
  go_enter Try.func128, Try.ntmps128
  go_wp2_with fail
  rw [← hW2.out]
  refine wp_region_held_drew (S := fun X => Below w.heap.size w X ∧ TQ X w.heap.size l x F.length c z W.length d m) (by kernel_rfl) ⟨Below.drew B2, q2.out.below (Below.drew (Below.refl _ _))⟩ (fun hH => ?_)
  refine wpAnyH_take (i := 0) (v := ?_) rfl (by kernel_rfl) (by kernel_rfl) (by kernel_rfl) (fun _ _ _ h => h) (Or.inl ⟨by rfl, ?_⟩) (by assumption) ?_; rotate_left; · (intro wz hz; (have f0 := hz.2.1; have f1 := hz.2.2.1; have f2 := hz.2.2.2.1; have f3 := hz.2.2.2.2.1); clear hz; go_simp; try with_reducible rfl); (try simp only [Act.put, List.getElem_toArray, List.getElem_cons_succ, List.getElem_cons_zero, List.setIfInBounds_toArray, List.set_cons_zero, List.set_cons_succ])
  refine wpAnyH_take (i := 1) (v := ?_) rfl (by kernel_rfl) (by kernel_rfl) (by kernel_rfl) (fun _ _ _ h => h) (Or.inl ⟨by rfl, ?_⟩) (by assumption) ?_; rotate_left; · (intro wz hz; (have f0 := hz.2.1; have f1 := hz.2.2.1; have f2 := hz.2.2.2.1; have f3 := hz.2.2.2.2.1); clear hz; go_simp; try with_reducible rfl); (try simp only [Act.put, List.getElem_toArray, List.getElem_cons_succ, List.getElem_cons_zero, List.setIfInBounds_toArray, List.set_cons_zero, List.set_cons_succ])
  refine wpAnyH_take (i := 2) (v := ?_) rfl (by kernel_rfl) (by kernel_rfl) (by kernel_rfl) (fun _ _ _ h => h) (Or.inl ⟨by rfl, ?_⟩) (by assumption) ?_; rotate_left; · (intro wz hz; (have f0 := hz.2.1; have f1 := hz.2.2.1; have f2 := hz.2.2.2.1; have f3 := hz.2.2.2.2.1); clear hz; go_simp; try with_reducible rfl); (try simp only [Act.put, List.getElem_toArray, List.getElem_cons_succ, List.getElem_cons_zero, List.setIfInBounds_toArray, List.set_cons_zero, List.set_cons_succ])
  refine wpAnyH_take (i := 3) (v := ?_) rfl (by kernel_rfl) (by kernel_rfl) (by kernel_rfl) (fun _ _ _ h => h) (Or.inl ⟨by rfl, ?_⟩) (by assumption) ?_; rotate_left; · (intro wz hz; (have f0 := hz.2.1; have f1 := hz.2.2.1; have f2 := hz.2.2.2.1; have f3 := hz.2.2.2.2.1); clear hz; go_simp; try with_reducible rfl); (try simp only [Act.put, List.getElem_toArray, List.getElem_cons_succ, List.getElem_cons_zero, List.setIfInBounds_toArray, List.set_cons_zero, List.set_cons_succ])
  refine wpAnyH_take (i := 5) (v := ?_) rfl (by kernel_rfl) (by kernel_rfl) (by kernel_rfl) (fun _ _ _ h => h) (Or.inl ⟨by rfl, ?_⟩) (by assumption) ?_; rotate_left; · (intro wz hz; (have f0 := hz.2.1; have f1 := hz.2.2.1; have f2 := hz.2.2.2.1; have f3 := hz.2.2.2.2.1); clear hz; go_simp; try with_reducible rfl); (try simp only [Act.put, List.getElem_toArray, List.getElem_cons_succ, List.getElem_cons_zero, List.setIfInBounds_toArray, List.set_cons_zero, List.set_cons_succ])
  refine wpAnyH_take (i := 6) (v := ?_) rfl (by kernel_rfl) (by kernel_rfl) (by kernel_rfl) (fun _ _ _ h => h) (Or.inl ⟨by rfl, ?_⟩) (by assumption) ?_; rotate_left; · (intro wz hz; (have f0 := hz.2.1; have f1 := hz.2.2.1; have f2 := hz.2.2.2.1; have f3 := hz.2.2.2.2.1); clear hz; go_simp; try with_reducible rfl); (try simp only [Act.put, List.getElem_toArray, List.getElem_cons_succ, List.getElem_cons_zero, List.setIfInBounds_toArray, List.set_cons_zero, List.set_cons_succ])
  refine wpAnyH_take (i := 8) (v := ?_) rfl (by kernel_rfl) (by kernel_rfl) (by kernel_rfl) (fun _ _ _ h => h) (Or.inl ⟨by rfl, ?_⟩) (by assumption) ?_; rotate_left; · (intro wz hz; (have f0 := hz.2.1; have f1 := hz.2.2.1; have f2 := hz.2.2.2.1; have f3 := hz.2.2.2.2.1); clear hz; go_simp; try with_reducible rfl); (try simp only [Act.put, List.getElem_toArray, List.getElem_cons_succ, List.getElem_cons_zero, List.setIfInBounds_toArray, List.set_cons_zero, List.set_cons_succ])
  refine wpAnyH_take (i := 9) (v := ?_) rfl (by kernel_rfl) (by kernel_rfl) (by kernel_rfl) (fun _ _ _ h => h) (Or.inl ⟨by rfl, ?_⟩) (by assumption) ?_; rotate_left; · (intro wz hz; (have f0 := hz.2.1; have f1 := hz.2.2.1; have f2 := hz.2.2.2.1; have f3 := hz.2.2.2.2.1); clear hz; go_simp; try with_reducible rfl); (try simp only [Act.put, List.getElem_toArray, List.getElem_cons_succ, List.getElem_cons_zero, List.setIfInBounds_toArray, List.set_cons_zero, List.set_cons_succ])
  refine wpAnyH_ready (rs := [4]) (by kernel_rfl) (by simp) (AllReadyH.cons rfl (fun K hK => ?_) AllReadyH.nil); go_simp
  go_simp; refine (l1Own_any x c F _ hmF hcF hnF (hFh.out.below (by exact (by repeat (first | exact Below.refl _ _ | assumption | refine Below.drew ?_ | refine below_drewN ?_ _ | refine Below.alloc' ?_ _ | (refine Below.setCell ?_ (by first | omega | (simp; done) | (simp; omega) | exact Below.size (by assumption) | exact Nat.le_trans (Below.size (by assumption)) (by simp)) _) | (refine Below.via' ?_ (by assumption)) | (refine Below.alloc ?_ (by first | omega | (simp; done) | (simp; omega) | exact Below.size (by assumption) | exact Nat.le_trans (Below.size (by assumption)) (by simp)) _) | (refine Below.via ?_ (by assumption) (by first | omega | (simp; done) | (simp; omega) | exact Below.size (by assumption) | exact Nat.le_trans (Below.size (by assumption)) (by simp)))))))).mono ?_; rintro e wF ⟨uF, rfl, hoF, hbF⟩; (have hOF := Lib.hid (OwR.of hoF)); (obtain ⟨xF, cF, rfl, -, -⟩ := hOF.out.form); clear hoF; refine hK.out _ _ ⟨Below.via' hH.1 hbF, hH.2.below hbF⟩ (fun hHF => ?_); clear hK K; (try simp only [Act.put, List.getElem_toArray, List.getElem_cons_succ, List.getElem_cons_zero, List.setIfInBounds_toArray, List.set_cons_zero, List.set_cons_succ])
  refine wpAnyH_ready (rs := [7]) (by kernel_rfl) (by simp) (AllReadyH.cons rfl (fun K hK => ?_) AllReadyH.nil); go_simp
  go_simp; refine (l1Own_any z d W _ hmW hcW hnW (hWh.out.below (by exact (by repeat (first | exact Below.refl _ _ | assumption | refine Below.drew ?_ | refine below_drewN ?_ _ | refine Below.alloc' ?_ _ | (refine Below.setCell ?_ (by first | omega | (simp; done) | (simp; omega) | exact Below.size (by assumption) | exact Nat.le_trans (Below.size (by assumption)) (by simp)) _) | (refine Below.via' ?_ (by assumption)) | (refine Below.alloc ?_ (by first | omega | (simp; done) | (simp; omega) | exact Below.size (by assumption) | exact Nat.le_trans (Below.size (by assumption)) (by simp)) _) | (refine Below.via ?_ (by assumption) (by first | omega | (simp; done) | (simp; omega) | exact Below.size (by assumption) | exact Nat.le_trans (Below.size (by assumption)) (by simp)))))))).mono ?_; rintro e wW ⟨uW, rfl, hoW, hbW⟩; (have hOW := Lib.hid (OwR.of hoW)); (obtain ⟨xW, cW, rfl, -, -⟩ := hOW.out.form); clear hoW; refine hK.out _ _ ⟨Below.via' hHF.1 hbW, hHF.2.below hbW⟩ (fun hHW => ?_); clear hK K; (try simp only [Act.put, List.getElem_toArray, List.getElem_cons_succ, List.getElem_cons_zero, List.setIfInBounds_toArray, List.set_cons_zero, List.set_cons_succ])
  refine wpAnyH_take (i := 10) (v := ?_) rfl (by kernel_rfl) (by kernel_rfl) (by kernel_rfl) (fun _ _ _ h => h) (Or.inl ⟨by rfl, ?_⟩) (by assumption) ?_; rotate_left; · (intro wz hz; (skip); clear hz; go_simp; try with_reducible rfl); (try simp only [Act.put, List.getElem_toArray, List.getElem_cons_succ, List.getElem_cons_zero, List.setIfInBounds_toArray, List.set_cons_zero, List.set_cons_succ])
  have zW := Lib.hid (((show Wb W2.drew (w.heap.size + 1) 37 #[.int .i64 0, .slice none 0 0, .slice none 0 0, .int .i64 0] from zz.out).kept hbF).kept hbW)
  have e1 := hbF.size
  have e2 := hbW.size
  have e0 : W2.drew.heap.size = W2.heap.size := rfl
  have ya := zW.out.read 0; have yb := zW.out.read 1; have yc := zW.out.read 2; have yd := zW.out.read 3; have ye := zW.out.free 0; have yf := zW.out.free 1; have yg := zW.out.free 2; have yh := zW.out.free 3
  have yin := zW.out.inside
  refine wpAnyH_ready (rs := [11]) (by kernel_rfl) (by simp) (AllReadyH.cons rfl (fun K hK => ?_) AllReadyH.nil); go_simp
  have hHW1 := hHW.1
  refine hK.out _ _ ⟨(by repeat (first | exact Below.refl _ _ | assumption | refine Below.drew ?_ | refine below_drewN ?_ _ | refine Below.alloc' ?_ _ | (refine Below.setCell ?_ (by first | omega | (simp; done) | (simp; omega) | exact Below.size (by assumption) | exact Nat.le_trans (Below.size (by assumption)) (by simp)) _) | (refine Below.via' ?_ (by assumption)) | (refine Below.alloc ?_ (by first | omega | (simp; done) | (simp; omega) | exact Below.size (by assumption) | exact Nat.le_trans (Below.size (by assumption)) (by simp)) _) | (refine Below.via ?_ (by assumption) (by first | omega | (simp; done) | (simp; omega) | exact Below.size (by assumption) | exact Nat.le_trans (Below.size (by assumption)) (by simp))))), (((hHW.2.set _ _ (by simp)).set _ _ (by simp)).set _ _ (by simp)).set _ _ (by simp)⟩ (fun hE => ?_)
  clear hK K
  (try simp only [Act.put, List.getElem_toArray, List.getElem_cons_succ, List.getElem_cons_zero, List.setIfInBounds_toArray, List.set_cons_zero, List.set_cons_succ])
  refine wpAnyH_done (by kernel_rfl) ?_ _
  go_wp2_with fail
  refine bodyPost_ret (v := .agg #[.int .i64 l, .slice xF F.length cF, .slice xW W.length cW, .int .i64 m]) (by simp [results, Try.results128, go_sem, *]) rfl ⟨_, _, _, _, rfl, ⟨W2.heap.size, wF.heap.size, wF.heap.size, wW.heap.size, by omega, by simp; omega, by omega, by simp, Or.inl (Nat.le_refl _), ?_, ?_⟩, hE.1⟩
  · repeat (refine OwR.set ?_ _ _ (Or.inl (by simp; omega)))
    exact hOF.out.below hbW
  · repeat (refine OwR.set ?_ _ _ (Or.inl (by simp; omega)))
    exact hOW.out
set_option maxHeartbeats 32000000 in
theorem copyTable_any (l : Int) (x z : Option Addr) (c d : Nat) (F W : List Int) (m : Int) (w : World) (hmF : F.length ≤ 1048576) (hmW : W.length ≤ 1048576) (hcF : F.length ≤ c) (hnF : x = none → c = 0) (hcW : W.length ≤ d) (hnW : z = none → d = 0) (hF : Rd w x (iC F)) (hW : Rd w z (iC W)) :
    Calls Try.prog 130 #[.agg #[.int .i64 l, .slice x F.length c, .slice z W.length d, .int .i64 m]] w (RetT l F W m w) := by
  have hFh := Lib.hid hF
  have hWh := Lib.hid hW
  clear hF hW
  have q0 := Wb.new w 37 #[.int .i64 l, .slice x F.length c, .slice z W.length d, .int .i64 m]
  obtain ⟨W2, hW2⟩ : ∃ W2, W2 = (w.alloc (.cells #[.int .i64 l, .slice x F.length c, .slice z W.length d, .int .i64 m] 37)).alloc (.cells #[.int .i64 0, .slice none 0 0, .slice none 0 0, .int .i64 0] 37) := ⟨_, rfl⟩
  replace q0 := q0.kept (show Below (w.alloc (.cells #[.int .i64 l, .slice x F.length c, .slice z W.length d, .int .i64 m] 37)).heap.size (w.alloc (.cells #[.int .i64 l, .slice x F.length c, .slice z W.length d, .int .i64 m] 37)) W2 from by rw [hW2]; exact (by repeat (first | exact Below.refl _ _ | assumption | refine Below.drew ?_ | refine below_drewN ?_ _ | refine Below.alloc' ?_ _ | (refine Below.setCell ?_ (by first | omega | (simp; done) | (simp; omega) | exact Below.size (by assumption) | exact Nat.le_trans (Below.size (by assumption)) (by simp)) _) | (refine Below.via' ?_ (by assumption)) | (refine Below.alloc ?_ (by first | omega | (simp; done) | (simp; omega) | exact Below.size (by assumption) | exact Nat.le_trans (Below.size (by assumption)) (by simp)) _) | (refine Below.via ?_ (by assumption) (by first | omega | (simp; done) | (simp; omega) | exact Below.size (by assumption) | exact Nat.le_trans (Below.size (by assumption)) (by simp))))))
  have B2 : Below w.heap.size w W2 := by rw [hW2]; exact (by repeat (first | exact Below.refl _ _ | assumption | refine Below.drew ?_ | refine below_drewN ?_ _ | refine Below.alloc' ?_ _ | (refine Below.setCell ?_ (by first | omega | (simp; done) | (simp; omega) | exact Below.size (by assumption) | exact Nat.le_trans (Below.size (by assumption)) (by simp)) _) | (refine Below.via' ?_ (by assumption)) | (refine Below.alloc ?_ (by first | omega | (simp; done) | (simp; omega) | exact Below.size (by assumption) | exact Nat.le_trans (Below.size (by assumption)) (by simp)) _) | (refine Below.via ?_ (by assumption) (by first | omega | (simp; done) | (simp; omega) | exact Below.size (by assumption) | exact Nat.le_trans (Below.size (by assumption)) (by simp)))))
  have zz := Wb.new (w.alloc (.cells #[.int .i64 l, .slice x F.length c, .slice z W.length d, .int .i64 m] 37)) 37 #[.int .i64 0, .slice none 0 0, .slice none 0 0, .int .i64 0]
  rw [← hW2, World.size_alloc] at zz
  have hs2 : W2.heap.size = w.heap.size + 1 + 1 := by rw [hW2]; simp
  replace zz := Lib.hid zz
  replace hW2 := Lib.hid hW2
  replace q0 := Lib.hid q0
  have pa := q0.out.read 0; have pb := q0.out.read 1; have pc := q0.out.read 2; have pd := q0.out.read 3; have pe := q0.out.free 0; have pf := q0.out.free 1; have pg := q0.out.free 2; have ph := q0.out.free 3
  clear pa pb pc pd pe pf pg ph
  have q1 := Lib.hid (show Wb W2.drew w.heap.size 37 #[.int .i64 l, .slice x F.length c, .slice z W.length d, .int .i64 m] from q0.out)
  have z1 := Lib.hid (show Wb W2.drew (w.heap.size + 1) 37 #[.int .i64 0, .slice none 0 0, .slice none 0 0, .int .i64 0] from zz.out)
  have p1 := q1.out.read 1
  have p2 := q1.out.read 2
  have e0 : W2.drew.heap.size = W2.heap.size := rfl
  clear q0 zz
  go_enter Try.func130, Try.ntmps130
  go_wp2_with fail
  rw [← hW2.out]
  refine wp_region_held_drew (S := fun X => Below w.heap.size w X) (by kernel_rfl) (Below.drew B2) (fun hH => ?_)
  refine wpAnyH_take (i := 0) (v := ?_) rfl (by kernel_rfl) (by kernel_rfl) (by kernel_rfl) (fun _ _ _ h => h) (Or.inl ⟨by rfl, ?_⟩) (by assumption) ?_; rotate_left; · (intro wz hz; (skip); clear hz; go_simp; try with_reducible rfl); (try simp only [Act.put, List.getElem_toArray, List.getElem_cons_succ, List.getElem_cons_zero, List.setIfInBounds_toArray, List.set_cons_zero, List.set_cons_succ])
  refine wpAnyH_take (i := 3) (v := ?_) rfl (by kernel_rfl) (by kernel_rfl) (by kernel_rfl) (fun _ _ _ h => h) (Or.inl ⟨by rfl, ?_⟩) (by assumption) ?_; rotate_left; · (intro wz hz; (skip); clear hz; go_simp; try with_reducible rfl); (try simp only [Act.put, List.getElem_toArray, List.getElem_cons_succ, List.getElem_cons_zero, List.setIfInBounds_toArray, List.set_cons_zero, List.set_cons_succ])
  refine wpAnyH_ready (rs := [1, 4]) (by kernel_rfl) (by simp) (AllReadyH.cons rfl (fun K hK => ?_) (AllReadyH.cons rfl (fun K hK => ?_) AllReadyH.nil))
  go_simp; refine hK.out _ _ hH (fun _ => ?_); clear hK K; (try simp only [Act.put, List.getElem_toArray, List.getElem_cons_succ, List.getElem_cons_zero, List.setIfInBounds_toArray, List.set_cons_zero, List.set_cons_succ])
  refine wpAnyH_ready (rs := [2, 4]) (by kernel_rfl) (by simp) (AllReadyH.cons rfl (fun K hK => ?_) (AllReadyH.cons rfl (fun K hK => ?_) AllReadyH.nil))
  go_simp; refine (cloneInt_any x c F _ hmF hcF hnF (hFh.out.below (by exact (by repeat (first | exact Below.refl _ _ | assumption | refine Below.drew ?_ | refine below_drewN ?_ _ | refine Below.alloc' ?_ _ | (refine Below.setCell ?_ (by first | omega | (simp; done) | (simp; omega) | exact Below.size (by assumption) | exact Nat.le_trans (Below.size (by assumption)) (by simp)) _) | (refine Below.via' ?_ (by assumption)) | (refine Below.alloc ?_ (by first | omega | (simp; done) | (simp; omega) | exact Below.size (by assumption) | exact Nat.le_trans (Below.size (by assumption)) (by simp)) _) | (refine Below.via ?_ (by assumption) (by first | omega | (simp; done) | (simp; omega) | exact Below.size (by assumption) | exact Nat.le_trans (Below.size (by assumption)) (by simp)))))))).mono ?_; rintro e wF ⟨uF, rfl, hoF, hbF⟩; (have hOF := Lib.hid (OwR.of hoF)); (obtain ⟨xF, cF, rfl, -, -⟩ := hOF.out.form); clear hoF p1 p2; (have qF := Lib.hid (q1.out.kept hbF)); (have p1 := qF.out.read 1); (have p2 := qF.out.read 2); refine hK.out _ _ (Below.via' hH hbF) (fun hHF => ?_); clear hK K; (try simp only [Act.put, List.getElem_toArray, List.getElem_cons_succ, List.getElem_cons_zero, List.setIfInBounds_toArray, List.set_cons_zero, List.set_cons_succ])
  refine wpAnyH_ready (rs := [4]) (by kernel_rfl) (by simp) (AllReadyH.cons rfl (fun K hK => ?_) AllReadyH.nil); go_simp
  go_simp; refine hK.out _ _ hHF (fun _ => ?_); clear hK K; (try simp only [Act.put, List.getElem_toArray, List.getElem_cons_succ, List.getElem_cons_zero, List.setIfInBounds_toArray, List.set_cons_zero, List.set_cons_succ])
  refine wpAnyH_take (i := 6) (v := ?_) rfl (by kernel_rfl) (by kernel_rfl) (by kernel_rfl) (fun _ _ _ h => h) (Or.inl ⟨by rfl, ?_⟩) (by assumption) ?_; rotate_left; · (intro wz hz; (skip); clear hz; go_simp; try with_reducible rfl); (try simp only [Act.put, List.getElem_toArray, List.getElem_cons_succ, List.getElem_cons_zero, List.setIfInBounds_toArray, List.set_cons_zero, List.set_cons_succ])
  refine wpAnyH_ready (rs := [5]) (by kernel_rfl) (by simp) (AllReadyH.cons rfl (fun K hK => ?_) AllReadyH.nil); go_simp
  go_simp; refine (cloneInt_any z d W _ hmW hcW hnW (hWh.out.below (by exact (by repeat (first | exact Below.refl _ _ | assumption | refine Below.drew ?_ | refine below_drewN ?_ _ | refine Below.alloc' ?_ _ | (refine Below.setCell ?_ (by first | omega | (simp; done) | (simp; omega) | exact Below.size (by assumption) | exact Nat.le_trans (Below.size (by assumption)) (by simp)) _) | (refine Below.via' ?_ (by assumption)) | (refine Below.alloc ?_ (by first | omega | (simp; done) | (simp; omega) | exact Below.size (by assumption) | exact Nat.le_trans (Below.size (by assumption)) (by simp)) _) | (refine Below.via ?_ (by assumption) (by first | omega | (simp; done) | (simp; omega) | exact Below.size (by assumption) | exact Nat.le_trans (Below.size (by assumption)) (by simp)))))))).mono ?_; rintro e wW ⟨uW, rfl, hoW, hbW⟩; (have hOW := Lib.hid (OwR.of hoW)); (obtain ⟨xW, cW, rfl, -, -⟩ := hOW.out.form); clear hoW p1 p2; refine hK.out _ _ (Below.via' hHF hbW) (fun hHW => ?_); clear hK K; (try simp only [Act.put, List.getElem_toArray, List.getElem_cons_succ, List.getElem_cons_zero, List.setIfInBounds_toArray, List.set_cons_zero, List.set_cons_succ])
  have e1 := hbF.size
  have e2 := hbW.size
  have zW := Lib.hid ((z1.out.kept hbF).kept hbW)
  have qW := Lib.hid (qF.out.kept hbW)
  have u1 := qW.out.read 1
  have u2 := qW.out.free 1
  refine wpAnyH_ready (rs := [7]) (by kernel_rfl) (by simp) (AllReadyH.cons rfl (fun K hK => ?_) AllReadyH.nil); go_simp
  have h7 : Below w.heap.size w (wW.setCell ⟨w.heap.size, 1, none⟩ (.slice xF F.length cF)) := (by repeat (first | exact Below.refl _ _ | assumption | refine Below.drew ?_ | refine below_drewN ?_ _ | refine Below.alloc' ?_ _ | (refine Below.setCell ?_ (by first | omega | (simp; done) | (simp; omega) | exact Below.size (by assumption) | exact Nat.le_trans (Below.size (by assumption)) (by simp)) _) | (refine Below.via' ?_ (by assumption)) | (refine Below.alloc ?_ (by first | omega | (simp; done) | (simp; omega) | exact Below.size (by assumption) | exact Nat.le_trans (Below.size (by assumption)) (by simp)) _) | (refine Below.via ?_ (by assumption) (by first | omega | (simp; done) | (simp; omega) | exact Below.size (by assumption) | exact Nat.le_trans (Below.size (by assumption)) (by simp)))))
  refine hK.out _ _ h7 (fun _ => ?_)
  clear hK K u1 u2
  (try simp only [Act.put, List.getElem_toArray, List.getElem_cons_succ, List.getElem_cons_zero, List.setIfInBounds_toArray, List.set_cons_zero, List.set_cons_succ])
  have qX := Lib.hid (show Wb (wW.setCell ⟨w.heap.size, 1, none⟩ (.slice xF F.length cF)) w.heap.size 37 #[.int .i64 l, .slice xF F.length cF, .slice z W.length d, .int .i64 m] from qW.out.put 1 _)
  have u1 := qX.out.read 2
  have u2 := qX.out.free 2
  refine wpAnyH_take (i := 8) (v := ?_) rfl (by kernel_rfl) (by kernel_rfl) (by kernel_rfl) (fun _ _ _ h => h) (Or.inl ⟨by rfl, ?_⟩) (by assumption) ?_; rotate_left; · (intro wz hz; (skip); clear hz; go_simp; try with_reducible rfl); (try simp only [Act.put, List.getElem_toArray, List.getElem_cons_succ, List.getElem_cons_zero, List.setIfInBounds_toArray, List.set_cons_zero, List.set_cons_succ])
  refine wpAnyH_ready (rs := [9]) (by kernel_rfl) (by simp) (AllReadyH.cons rfl (fun K hK => ?_) AllReadyH.nil); go_simp
  have h9 : Below w.heap.size w ((wW.setCell ⟨w.heap.size, 1, none⟩ (.slice xF F.length cF)).setCell ⟨w.heap.size, 2, none⟩ (.slice xW W.length cW)) := (by repeat (first | exact Below.refl _ _ | assumption | refine Below.drew ?_ | refine below_drewN ?_ _ | refine Below.alloc' ?_ _ | (refine Below.setCell ?_ (by first | omega | (simp; done) | (simp; omega) | exact Below.size (by assumption) | exact Nat.le_trans (Below.size (by assumption)) (by simp)) _) | (refine Below.via' ?_ (by assumption)) | (refine Below.alloc ?_ (by first | omega | (simp; done) | (simp; omega) | exact Below.size (by assumption) | exact Nat.le_trans (Below.size (by assumption)) (by simp)) _) | (refine Below.via ?_ (by assumption) (by first | omega | (simp; done) | (simp; omega) | exact Below.size (by assumption) | exact Nat.le_trans (Below.size (by assumption)) (by simp)))))
  refine hK.out _ _ h9 (fun _ => ?_)
  clear hK K u1 u2
  (try simp only [Act.put, List.getElem_toArray, List.getElem_cons_succ, List.getElem_cons_zero, List.setIfInBounds_toArray, List.set_cons_zero, List.set_cons_succ])
  obtain ⟨X, hX⟩ : ∃ X, X = ((wW.setCell ⟨w.heap.size, 1, none⟩ (.slice xF F.length cF)).setCell ⟨w.heap.size, 2, none⟩ (.slice xW W.length cW)) := ⟨_, rfl⟩
  have qY : Wb X w.heap.size 37 #[.int .i64 l, .slice xF F.length cF, .slice xW W.length cW, .int .i64 m] := by rw [hX]; exact qX.out.put 2 _
  have zY : Wb X (w.heap.size + 1) 37 #[.int .i64 0, .slice none 0 0, .slice none 0 0, .int .i64 0] := by rw [hX]; exact ((Below.heap_setCell _ _ _ _ (by simp)).trans ((Below.heap_setCell _ _ _ _ (by simp)).trans zW.out))
  have oF : OwR X W2.heap.size wF.heap.size 3 1 (.slice xF F.length cF) F.length (iC F) := by rw [hX]; exact ((hOF.out.below hbW).set _ _ (Or.inl (by show w.heap.size < W2.heap.size; omega))).set _ _ (Or.inl (by show w.heap.size < W2.heap.size; omega))
  have oW : OwR X wF.heap.size wW.heap.size 3 1 (.slice xW W.length cW) W.length (iC W) := by rw [hX]; exact (hOW.out.set _ _ (Or.inl (by show w.heap.size < wF.heap.size; omega))).set _ _ (Or.inl (by show w.heap.size < wF.heap.size; omega))
  have sX : X.heap.size = wW.heap.size := by rw [hX]; simp
  rw [← hX]
  rw [← hX] at h9
  replace oF := Lib.hid oF
  replace oW := Lib.hid oW
  replace hX := Lib.hid hX
  have qa := qY.read 0; have qb := qY.read 1; have qc := qY.read 2; have qd := qY.read 3; have qe := qY.free 0; have qf := qY.free 1; have qg := qY.free 2; have qh := qY.free 3
  have ya := zY.read 0; have yb := zY.read 1; have yc := zY.read 2; have yd := zY.read 3; have ye := zY.free 0; have yf := zY.free 1; have yg := zY.free 2; have yh := zY.free 3
  clear qX qW zW qF z1 q1 hOF hOW hH hHF hHW h7 B2 hW2 hFh hWh qY
  refine wpAnyH_done (by kernel_rfl) ?_ _
  go_wp2_with fail
  refine bodyPost_ret (v := .agg #[.int .i64 l, .slice xF F.length cF, .slice xW W.length cW, .int .i64 m]) (by simp [results, Try.results130, go_sem, *]) rfl ⟨_, _, _, _, rfl, ⟨W2.heap.size, wF.heap.size, wF.heap.size, wW.heap.size, by omega, by simp; omega, by omega, by simp; omega, Or.inl (Nat.le_refl _), ?_, ?_⟩, ?_⟩
  repeat (refine OwR.set ?_ _ _ (Or.inl (by show w.heap.size + 1 < W2.heap.size; omega)))
  exact oF.out
  repeat (refine OwR.set ?_ _ _ (Or.inl (by show w.heap.size + 1 < wF.heap.size; omega)))
  exact oW.out
  exact (by repeat (first | exact Below.refl _ _ | assumption | refine Below.drew ?_ | refine below_drewN ?_ _ | refine Below.alloc' ?_ _ | (refine Below.setCell ?_ (by first | omega | (simp; done) | (simp; omega) | exact Below.size (by assumption) | exact Nat.le_trans (Below.size (by assumption)) (by simp)) _) | (refine Below.via' ?_ (by assumption)) | (refine Below.alloc ?_ (by first | omega | (simp; done) | (simp; omega) | exact Below.size (by assumption) | exact Nat.le_trans (Below.size (by assumption)) (by simp)) _) | (refine Below.via ?_ (by assumption) (by first | omega | (simp; done) | (simp; omega) | exact Below.size (by assumption) | exact Nat.le_trans (Below.size (by assumption)) (by simp)))))
  go_simp; refine hK.out _ _ hH (fun _ => ?_); clear hK K; (try simp only [Act.put, List.getElem_toArray, List.getElem_cons_succ, List.getElem_cons_zero, List.setIfInBounds_toArray, List.set_cons_zero, List.set_cons_succ])
  refine wpAnyH_ready (rs := [2]) (by kernel_rfl) (by simp) (AllReadyH.cons rfl (fun K hK => ?_) AllReadyH.nil); go_simp
  go_simp; refine (cloneInt_any x c F _ hmF hcF hnF (hFh.out.below (by exact (by repeat (first | exact Below.refl _ _ | assumption | refine Below.drew ?_ | refine below_drewN ?_ _ | refine Below.alloc' ?_ _ | (refine Below.setCell ?_ (by first | omega | (simp; done) | (simp; omega) | exact Below.size (by assumption) | exact Nat.le_trans (Below.size (by assumption)) (by simp)) _) | (refine Below.via' ?_ (by assumption)) | (refine Below.alloc ?_ (by first | omega | (simp; done) | (simp; omega) | exact Below.size (by assumption) | exact Nat.le_trans (Below.size (by assumption)) (by simp)) _) | (refine Below.via ?_ (by assumption) (by first | omega | (simp; done) | (simp; omega) | exact Below.size (by assumption) | exact Nat.le_trans (Below.size (by assumption)) (by simp)))))))).mono ?_; rintro e wF ⟨uF, rfl, hoF, hbF⟩; (have hOF := Lib.hid (OwR.of hoF)); (obtain ⟨xF, cF, rfl, -, -⟩ := hOF.out.form); clear hoF p1 p2; (have qF := Lib.hid (q1.out.kept hbF)); (have p1 := qF.out.read 1); (have p2 := qF.out.read 2); refine hK.out _ _ (Below.via' hH hbF) (fun hHF => ?_); clear hK K; (try simp only [Act.put, List.getElem_toArray, List.getElem_cons_succ, List.getElem_cons_zero, List.setIfInBounds_toArray, List.set_cons_zero, List.set_cons_succ])
  refine wpAnyH_take (i := 6) (v := ?_) rfl (by kernel_rfl) (by kernel_rfl) (by kernel_rfl) (fun _ _ _ h => h) (Or.inl ⟨by rfl, ?_⟩) (by assumption) ?_; rotate_left; · (intro wz hz; (skip); clear hz; go_simp; try with_reducible rfl); (try simp only [Act.put, List.getElem_toArray, List.getElem_cons_succ, List.getElem_cons_zero, List.setIfInBounds_toArray, List.set_cons_zero, List.set_cons_succ])
  refine wpAnyH_ready (rs := [5]) (by kernel_rfl) (by simp) (AllReadyH.cons rfl (fun K hK => ?_) AllReadyH.nil); go_simp
  go_simp; refine (cloneInt_any z d W _ hmW hcW hnW (hWh.out.below (by exact (by repeat (first | exact Below.refl _ _ | assumption | refine Below.drew ?_ | refine below_drewN ?_ _ | refine Below.alloc' ?_ _ | (refine Below.setCell ?_ (by first | omega | (simp; done) | (simp; omega) | exact Below.size (by assumption) | exact Nat.le_trans (Below.size (by assumption)) (by simp)) _) | (refine Below.via' ?_ (by assumption)) | (refine Below.alloc ?_ (by first | omega | (simp; done) | (simp; omega) | exact Below.size (by assumption) | exact Nat.le_trans (Below.size (by assumption)) (by simp)) _) | (refine Below.via ?_ (by assumption) (by first | omega | (simp; done) | (simp; omega) | exact Below.size (by assumption) | exact Nat.le_trans (Below.size (by assumption)) (by simp)))))))).mono ?_; rintro e wW ⟨uW, rfl, hoW, hbW⟩; (have hOW := Lib.hid (OwR.of hoW)); (obtain ⟨xW, cW, rfl, -, -⟩ := hOW.out.form); clear hoW p1 p2; refine hK.out _ _ (Below.via' hHF hbW) (fun hHW => ?_); clear hK K; (try simp only [Act.put, List.getElem_toArray, List.getElem_cons_succ, List.getElem_cons_zero, List.setIfInBounds_toArray, List.set_cons_zero, List.set_cons_succ])
  have e1 := hbF.size
  have e2 := hbW.size
  have zW := Lib.hid ((z1.out.kept hbF).kept hbW)
  have qW := Lib.hid (qF.out.kept hbW)
  have u1 := qW.out.read 1
  have u2 := qW.out.free 1
  refine wpAnyH_ready (rs := [7]) (by kernel_rfl) (by simp) (AllReadyH.cons rfl (fun K hK => ?_) AllReadyH.nil); go_simp
  have h7 : Below w.heap.size w (wW.setCell ⟨w.heap.size, 1, none⟩ (.slice xF F.length cF)) := (by repeat (first | exact Below.refl _ _ | assumption | refine Below.drew ?_ | refine below_drewN ?_ _ | refine Below.alloc' ?_ _ | (refine Below.setCell ?_ (by first | omega | (simp; done) | (simp; omega) | exact Below.size (by assumption) | exact Nat.le_trans (Below.size (by assumption)) (by simp)) _) | (refine Below.via' ?_ (by assumption)) | (refine Below.alloc ?_ (by first | omega | (simp; done) | (simp; omega) | exact Below.size (by assumption) | exact Nat.le_trans (Below.size (by assumption)) (by simp)) _) | (refine Below.via ?_ (by assumption) (by first | omega | (simp; done) | (simp; omega) | exact Below.size (by assumption) | exact Nat.le_trans (Below.size (by assumption)) (by simp)))))
  refine hK.out _ _ h7 (fun _ => ?_)
  clear hK K u1 u2
  (try simp only [Act.put, List.getElem_toArray, List.getElem_cons_succ, List.getElem_cons_zero, List.setIfInBounds_toArray, List.set_cons_zero, List.set_cons_succ])
  have qX := Lib.hid (show Wb (wW.setCell ⟨w.heap.size, 1, none⟩ (.slice xF F.length cF)) w.heap.size 37 #[.int .i64 l, .slice xF F.length cF, .slice z W.length d, .int .i64 m] from qW.out.put 1 _)
  have u1 := qX.out.read 2
  have u2 := qX.out.free 2
  refine wpAnyH_take (i := 8) (v := ?_) rfl (by kernel_rfl) (by kernel_rfl) (by kernel_rfl) (fun _ _ _ h => h) (Or.inl ⟨by rfl, ?_⟩) (by assumption) ?_; rotate_left; · (intro wz hz; (skip); clear hz; go_simp; try with_reducible rfl); (try simp only [Act.put, List.getElem_toArray, List.getElem_cons_succ, List.getElem_cons_zero, List.setIfInBounds_toArray, List.set_cons_zero, List.set_cons_succ])
  refine wpAnyH_ready (rs := [9]) (by kernel_rfl) (by simp) (AllReadyH.cons rfl (fun K hK => ?_) AllReadyH.nil); go_simp
  have h9 : Below w.heap.size w ((wW.setCell ⟨w.heap.size, 1, none⟩ (.slice xF F.length cF)).setCell ⟨w.heap.size, 2, none⟩ (.slice xW W.length cW)) := (by repeat (first | exact Below.refl _ _ | assumption | refine Below.drew ?_ | refine below_drewN ?_ _ | refine Below.alloc' ?_ _ | (refine Below.setCell ?_ (by first | omega | (simp; done) | (simp; omega) | exact Below.size (by assumption) | exact Nat.le_trans (Below.size (by assumption)) (by simp)) _) | (refine Below.via' ?_ (by assumption)) | (refine Below.alloc ?_ (by first | omega | (simp; done) | (simp; omega) | exact Below.size (by assumption) | exact Nat.le_trans (Below.size (by assumption)) (by simp)) _) | (refine Below.via ?_ (by assumption) (by first | omega | (simp; done) | (simp; omega) | exact Below.size (by assumption) | exact Nat.le_trans (Below.size (by assumption)) (by simp)))))
  refine hK.out _ _ h9 (fun _ => ?_)
  clear hK K u1 u2
  (try simp only [Act.put, List.getElem_toArray, List.getElem_cons_succ, List.getElem_cons_zero, List.setIfInBounds_toArray, List.set_cons_zero, List.set_cons_succ])
  obtain ⟨X, hX⟩ : ∃ X, X = ((wW.setCell ⟨w.heap.size, 1, none⟩ (.slice xF F.length cF)).setCell ⟨w.heap.size, 2, none⟩ (.slice xW W.length cW)) := ⟨_, rfl⟩
  have qY : Wb X w.heap.size 37 #[.int .i64 l, .slice xF F.length cF, .slice xW W.length cW, .int .i64 m] := by rw [hX]; exact qX.out.put 2 _
  have zY : Wb X (w.heap.size + 1) 37 #[.int .i64 0, .slice none 0 0, .slice none 0 0, .int .i64 0] := by rw [hX]; exact ((Below.heap_setCell _ _ _ _ (by simp)).trans ((Below.heap_setCell _ _ _ _ (by simp)).trans zW.out))
  have oF : OwR X W2.heap.size wF.heap.size 3 1 (.slice xF F.length cF) F.length (iC F) := by rw [hX]; exact ((hOF.out.below hbW).set _ _ (Or.inl (by show w.heap.size < W2.heap.size; omega))).set _ _ (Or.inl (by show w.heap.size < W2.heap.size; omega))
  have oW : OwR X wF.heap.size wW.heap.size 3 1 (.slice xW W.length cW) W.length (iC W) := by rw [hX]; exact (hOW.out.set _ _ (Or.inl (by show w.heap.size < wF.heap.size; omega))).set _ _ (Or.inl (by show w.heap.size < wF.heap.size; omega))
  have sX : X.heap.size = wW.heap.size := by rw [hX]; simp
  rw [← hX]
  rw [← hX] at h9
  replace oF := Lib.hid oF
  replace oW := Lib.hid oW
  replace hX := Lib.hid hX
  have qa := qY.read 0; have qb := qY.read 1; have qc := qY.read 2; have qd := qY.read 3; have qe := qY.free 0; have qf := qY.free 1; have qg := qY.free 2; have qh := qY.free 3
  have ya := zY.read 0; have yb := zY.read 1; have yc := zY.read 2; have yd := zY.read 3; have ye := zY.free 0; have yf := zY.free 1; have yg := zY.free 2; have yh := zY.free 3
  clear qX qW zW qF z1 q1 hOF hOW hH hHF hHW h7 B2 hW2 hFh hWh qY
  refine wpAnyH_done (by kernel_rfl) ?_ _
  go_wp2_with fail
  refine bodyPost_ret (v := .agg #[.int .i64 l, .slice xF F.length cF, .slice xW W.length cW, .int .i64 m]) (by simp [results, Try.results130, go_sem, *]) rfl ⟨_, _, _, _, rfl, ⟨W2.heap.size, wF.heap.size, wF.heap.size, wW.heap.size, by omega, by simp; omega, by omega, by simp; omega, Or.inl (Nat.le_refl _), ?_, ?_⟩, ?_⟩
  repeat (refine OwR.set ?_ _ _ (Or.inl (by show w.heap.size + 1 < W2.heap.size; omega)))
  exact oF.out
  repeat (refine OwR.set ?_ _ _ (Or.inl (by show w.heap.size + 1 < wF.heap.size; omega)))
  exact oW.out
  exact (by repeat (first | exact Below.refl _ _ | assumption | refine Below.drew ?_ | refine below_drewN ?_ _ | refine Below.alloc' ?_ _ | (refine Below.setCell ?_ (by first | omega | (simp; done) | (simp; omega) | exact Below.size (by assumption) | exact Nat.le_trans (Below.size (by assumption)) (by simp)) _) | (refine Below.via' ?_ (by assumption)) | (refine Below.alloc ?_ (by first | omega | (simp; done) | (simp; omega) | exact Below.size (by assumption) | exact Nat.le_trans (Below.size (by assumption)) (by simp)) _) | (refine Below.via ?_ (by assumption) (by first | omega | (simp; done) | (simp; omega) | exact Below.size (by assumption) | exact Nat.le_trans (Below.size (by assumption)) (by simp)))))
  go_simp; refine hK.out _ _ hH (fun _ => ?_); clear hK K; (try simp only [Act.put, List.getElem_toArray, List.getElem_cons_succ, List.getElem_cons_zero, List.setIfInBounds_toArray, List.set_cons_zero, List.set_cons_succ])
  refine wpAnyH_ready (rs := [1]) (by kernel_rfl) (by simp) (AllReadyH.cons rfl (fun K hK => ?_) AllReadyH.nil); go_simp
  go_simp; refine hK.out _ _ hH (fun _ => ?_); clear hK K; (try simp only [Act.put, List.getElem_toArray, List.getElem_cons_succ, List.getElem_cons_zero, List.setIfInBounds_toArray, List.set_cons_zero, List.set_cons_succ])
  refine wpAnyH_ready (rs := [2]) (by kernel_rfl) (by simp) (AllReadyH.cons rfl (fun K hK => ?_) AllReadyH.nil); go_simp
  go_simp; refine (cloneInt_any x c F _ hmF hcF hnF (hFh.out.below (by exact (by repeat (first | exact Below.refl _ _ | assumption | refine Below.drew ?_ | refine below_drewN ?_ _ | refine Below.alloc' ?_ _ | (refine Below.setCell ?_ (by first | omega | (simp; done) | (simp; omega) | exact Below.size (by assumption) | exact Nat.le_trans (Below.size (by assumption)) (by simp)) _) | (refine Below.via' ?_ (by assumption)) | (refine Below.alloc ?_ (by first | omega | (simp; done) | (simp; omega) | exact Below.size (by assumption) | exact Nat.le_trans (Below.size (by assumption)) (by simp)) _) | (refine Below.via ?_ (by assumption) (by first | omega | (simp; done) | (simp; omega) | exact Below.size (by assumption) | exact Nat.le_trans (Below.size (by assumption)) (by simp)))))))).mono ?_; rintro e wF ⟨uF, rfl, hoF, hbF⟩; (have hOF := Lib.hid (OwR.of hoF)); (obtain ⟨xF, cF, rfl, -, -⟩ := hOF.out.form); clear hoF p1 p2; (have qF := Lib.hid (q1.out.kept hbF)); (have p1 := qF.out.read 1); (have p2 := qF.out.read 2); refine hK.out _ _ (Below.via' hH hbF) (fun hHF => ?_); clear hK K; (try simp only [Act.put, List.getElem_toArray, List.getElem_cons_succ, List.getElem_cons_zero, List.setIfInBounds_toArray, List.set_cons_zero, List.set_cons_succ])
  refine wpAnyH_take (i := 6) (v := ?_) rfl (by kernel_rfl) (by kernel_rfl) (by kernel_rfl) (fun _ _ _ h => h) (Or.inl ⟨by rfl, ?_⟩) (by assumption) ?_; rotate_left; · (intro wz hz; (skip); clear hz; go_simp; try with_reducible rfl); (try simp only [Act.put, List.getElem_toArray, List.getElem_cons_succ, List.getElem_cons_zero, List.setIfInBounds_toArray, List.set_cons_zero, List.set_cons_succ])
  refine wpAnyH_ready (rs := [5]) (by kernel_rfl) (by simp) (AllReadyH.cons rfl (fun K hK => ?_) AllReadyH.nil); go_simp
  go_simp; refine (cloneInt_any z d W _ hmW hcW hnW (hWh.out.below (by exact (by repeat (first | exact Below.refl _ _ | assumption | refine Below.drew ?_ | refine below_drewN ?_ _ | refine Below.alloc' ?_ _ | (refine Below.setCell ?_ (by first | omega | (simp; done) | (simp; omega) | exact Below.size (by assumption) | exact Nat.le_trans (Below.size (by assumption)) (by simp)) _) | (refine Below.via' ?_ (by assumption)) | (refine Below.alloc ?_ (by first | omega | (simp; done) | (simp; omega) | exact Below.size (by assumption) | exact Nat.le_trans (Below.size (by assumption)) (by simp)) _) | (refine Below.via ?_ (by assumption) (by first | omega | (simp; done) | (simp; omega) | exact Below.size (by assumption) | exact Nat.le_trans (Below.size (by assumption)) (by simp)))))))).mono ?_; rintro e wW ⟨uW, rfl, hoW, hbW⟩; (have hOW := Lib.hid (OwR.of hoW)); (obtain ⟨xW, cW, rfl, -, -⟩ := hOW.out.form); clear hoW p1 p2; refine hK.out _ _ (Below.via' hHF hbW) (fun hHW => ?_); clear hK K; (try simp only [Act.put, List.getElem_toArray, List.getElem_cons_succ, List.getElem_cons_zero, List.setIfInBounds_toArray, List.set_cons_zero, List.set_cons_succ])
  have e1 := hbF.size
  have e2 := hbW.size
  have zW := Lib.hid ((z1.out.kept hbF).kept hbW)
  have qW := Lib.hid (qF.out.kept hbW)
  have u1 := qW.out.read 1
  have u2 := qW.out.free 1
  refine wpAnyH_ready (rs := [7]) (by kernel_rfl) (by simp) (AllReadyH.cons rfl (fun K hK => ?_) AllReadyH.nil); go_simp
  have h7 : Below w.heap.size w (wW.setCell ⟨w.heap.size, 1, none⟩ (.slice xF F.length cF)) := (by repeat (first | exact Below.refl _ _ | assumption | refine Below.drew ?_ | refine below_drewN ?_ _ | refine Below.alloc' ?_ _ | (refine Below.setCell ?_ (by first | omega | (simp; done) | (simp; omega) | exact Below.size (by assumption) | exact Nat.le_trans (Below.size (by assumption)) (by simp)) _) | (refine Below.via' ?_ (by assumption)) | (refine Below.alloc ?_ (by first | omega | (simp; done) | (simp; omega) | exact Below.size (by assumption) | exact Nat.le_trans (Below.size (by assumption)) (by simp)) _) | (refine Below.via ?_ (by assumption) (by first | omega | (simp; done) | (simp; omega) | exact Below.size (by assumption) | exact Nat.le_trans (Below.size (by assumption)) (by simp)))))
  refine hK.out _ _ h7 (fun _ => ?_)
  clear hK K u1 u2
  (try simp only [Act.put, List.getElem_toArray, List.getElem_cons_succ, List.getElem_cons_zero, List.setIfInBounds_toArray, List.set_cons_zero, List.set_cons_succ])
  have qX := Lib.hid (show Wb (wW.setCell ⟨w.heap.size, 1, none⟩ (.slice xF F.length cF)) w.heap.size 37 #[.int .i64 l, .slice xF F.length cF, .slice z W.length d, .int .i64 m] from qW.out.put 1 _)
  have u1 := qX.out.read 2
  have u2 := qX.out.free 2
  refine wpAnyH_take (i := 8) (v := ?_) rfl (by kernel_rfl) (by kernel_rfl) (by kernel_rfl) (fun _ _ _ h => h) (Or.inl ⟨by rfl, ?_⟩) (by assumption) ?_; rotate_left; · (intro wz hz; (skip); clear hz; go_simp; try with_reducible rfl); (try simp only [Act.put, List.getElem_toArray, List.getElem_cons_succ, List.getElem_cons_zero, List.setIfInBounds_toArray, List.set_cons_zero, List.set_cons_succ])
  refine wpAnyH_ready (rs := [9]) (by kernel_rfl) (by simp) (AllReadyH.cons rfl (fun K hK => ?_) AllReadyH.nil); go_simp
  have h9 : Below w.heap.size w ((wW.setCell ⟨w.heap.size, 1, none⟩ (.slice xF F.length cF)).setCell ⟨w.heap.size, 2, none⟩ (.slice xW W.length cW)) := (by repeat (first | exact Below.refl _ _ | assumption | refine Below.drew ?_ | refine below_drewN ?_ _ | refine Below.alloc' ?_ _ | (refine Below.setCell ?_ (by first | omega | (simp; done) | (simp; omega) | exact Below.size (by assumption) | exact Nat.le_trans (Below.size (by assumption)) (by simp)) _) | (refine Below.via' ?_ (by assumption)) | (refine Below.alloc ?_ (by first | omega | (simp; done) | (simp; omega) | exact Below.size (by assumption) | exact Nat.le_trans (Below.size (by assumption)) (by simp)) _) | (refine Below.via ?_ (by assumption) (by first | omega | (simp; done) | (simp; omega) | exact Below.size (by assumption) | exact Nat.le_trans (Below.size (by assumption)) (by simp)))))
  refine hK.out _ _ h9 (fun _ => ?_)
  clear hK K u1 u2
  (try simp only [Act.put, List.getElem_toArray, List.getElem_cons_succ, List.getElem_cons_zero, List.setIfInBounds_toArray, List.set_cons_zero, List.set_cons_succ])
  obtain ⟨X, hX⟩ : ∃ X, X = ((wW.setCell ⟨w.heap.size, 1, none⟩ (.slice xF F.length cF)).setCell ⟨w.heap.size, 2, none⟩ (.slice xW W.length cW)) := ⟨_, rfl⟩
  have qY : Wb X w.heap.size 37 #[.int .i64 l, .slice xF F.length cF, .slice xW W.length cW, .int .i64 m] := by rw [hX]; exact qX.out.put 2 _
  have zY : Wb X (w.heap.size + 1) 37 #[.int .i64 0, .slice none 0 0, .slice none 0 0, .int .i64 0] := by rw [hX]; exact ((Below.heap_setCell _ _ _ _ (by simp)).trans ((Below.heap_setCell _ _ _ _ (by simp)).trans zW.out))
  have oF : OwR X W2.heap.size wF.heap.size 3 1 (.slice xF F.length cF) F.length (iC F) := by rw [hX]; exact ((hOF.out.below hbW).set _ _ (Or.inl (by show w.heap.size < W2.heap.size; omega))).set _ _ (Or.inl (by show w.heap.size < W2.heap.size; omega))
  have oW : OwR X wF.heap.size wW.heap.size 3 1 (.slice xW W.length cW) W.length (iC W) := by rw [hX]; exact (hOW.out.set _ _ (Or.inl (by show w.heap.size < wF.heap.size; omega))).set _ _ (Or.inl (by show w.heap.size < wF.heap.size; omega))
  have sX : X.heap.size = wW.heap.size := by rw [hX]; simp
  rw [← hX]
  rw [← hX] at h9
  replace oF := Lib.hid oF
  replace oW := Lib.hid oW
  replace hX := Lib.hid hX
  have qa := qY.read 0; have qb := qY.read 1; have qc := qY.read 2; have qd := qY.read 3; have qe := qY.free 0; have qf := qY.free 1; have qg := qY.free 2; have qh := qY.free 3
  have ya := zY.read 0; have yb := zY.read 1; have yc := zY.read 2; have yd := zY.read 3; have ye := zY.free 0; have yf := zY.free 1; have yg := zY.free 2; have yh := zY.free 3
  clear qX qW zW qF z1 q1 hOF hOW hH hHF hHW h7 B2 hW2 hFh hWh qY
  refine wpAnyH_done (by kernel_rfl) ?_ _
  go_wp2_with fail
  refine bodyPost_ret (v := .agg #[.int .i64 l, .slice xF F.length cF, .slice xW W.length cW, .int .i64 m]) (by simp [results, Try.results130, go_sem, *]) rfl ⟨_, _, _, _, rfl, ⟨W2.heap.size, wF.heap.size, wF.heap.size, wW.heap.size, by omega, by simp; omega, by omega, by simp; omega, Or.inl (Nat.le_refl _), ?_, ?_⟩, ?_⟩
  repeat (refine OwR.set ?_ _ _ (Or.inl (by show w.heap.size + 1 < W2.heap.size; omega)))
  exact oF.out
  repeat (refine OwR.set ?_ _ _ (Or.inl (by show w.heap.size + 1 < wF.heap.size; omega)))
  exact oW.out
  exact (by repeat (first | exact Below.refl _ _ | assumption | refine Below.drew ?_ | refine below_drewN ?_ _ | refine Below.alloc' ?_ _ | (refine Below.setCell ?_ (by first | omega | (simp; done) | (simp; omega) | exact Below.size (by assumption) | exact Nat.le_trans (Below.size (by assumption)) (by simp)) _) | (refine Below.via' ?_ (by assumption)) | (refine Below.alloc ?_ (by first | omega | (simp; done) | (simp; omega) | exact Below.size (by assumption) | exact Nat.le_trans (Below.size (by assumption)) (by simp)) _) | (refine Below.via ?_ (by assumption) (by first | omega | (simp; done) | (simp; omega) | exact Below.size (by assumption) | exact Nat.le_trans (Below.size (by assumption)) (by simp)))))
end Go.Proofs.Ytgkaalonmkcclaa

namespace Go.Proofs.Ytgkaalonmkcclaa
open Go.RowKit
set_option maxRecDepth 100000

theorem iC_setN (L : List Int) (k : Nat) (v : Int) : (iC L).set k (.int .i64 v) = iC (L.set k v) := by unfold iC; rw [List.map_set]
theorem wb_farN {w w' : World} {g t : Nat} {cs : Array Value} {r : Option Nat} (h : Wb w g t cs) (hg : w.grownBy w' r) (hne : r ≠ some g) : Wb w' g t cs := (hg.block g h.inside (fun e => hne e.symm)).trans h
theorem kd_ne {lv x : Int} (h : x ≠ flZ lv) : (kdZ lv x == 2) = false := by
  unfold kdZ
  by_cases k : x ≤ 0 ∨ flZ lv < x
  · rw [if_pos k]; rfl
  · rw [if_neg k, if_neg h]; rfl
theorem kd_eq {lv x : Int} (h : 2 ≤ lv ∧ lv ≤ 8) (k : x = flZ lv) : (kdZ lv x == 2) = true := by rw [kdZ_all h k]; rfl
theorem retT_of {l : Int} {F W V : List Int} {m : Int} {w w' : World} {xF : Option Addr} {cF g cW : Nat} (hl : V.length = W.length) (h : OwY w' w.heap.size w'.heap.size (.slice xF F.length cF) (.slice (some ⟨g, 0, none⟩) V.length cW) F V) (hb : Below w.heap.size w w') :
    RetT l F V m w (.returned (.agg #[.int .i64 l, .slice xF F.length cF, .slice (some ⟨g, 0, none⟩) W.length cW, .int .i64 m])) w' := by
  rw [← hl]
  exact ⟨_, _, _, _, rfl, h, hb⟩
set_option maxHeartbeats 4000000 in
theorem normalTable_any (y x z : Option Addr) (c1 c d : Nat) (S : List (ByteArray × Int)) (l : Int) (F W : List Int) (m : Int) (w : World) (hs : schB S = true) (hl : W.length = S.length) (hS : SIn w y c1 S) (hmF : F.length ≤ 1048576) (hcF : F.length ≤ c) (hnF : x = none → c = 0) (hcW : W.length ≤ d) (hnW : z = none → d = 0) (hF : Rd w x (iC F)) (hW : Rd w z (iC W)) :
    Calls Try.prog 96 #[.slice y S.length c1, .agg #[.int .i64 l, .slice x F.length c, .slice z W.length d, .int .i64 m]] w (RetT l F (nwL S W) m w) := by
  have hSh := Lib.hid hS
  have hFh := Lib.hid hF
  have hWh := Lib.hid hW
  have hsh := Lib.hid hs
  have h6 := schB_len hs
  have hlh := Lib.hid hl
  have hW6 : W.length ≤ 6 := by omega
  have hW1 : 0 < W.length := by omega
  clear hF hW hS hs hl
  have q0 := TQ.new w l x F.length c z W.length d m 37
  obtain ⟨W2, hW2⟩ : ∃ W2, W2 = (w.alloc (.cells #[.int .i64 l, .slice x F.length c, .slice z W.length d, .int .i64 m] 37)).alloc (.cells #[.int .i64 0, .slice none 0 0, .slice none 0 0, .int .i64 0] 37) := ⟨_, rfl⟩
  have B2 : Below w.heap.size w W2 := by rw [hW2]; exact (by repeat (first | exact Below.refl _ _ | assumption | refine Below.drew ?_ | refine below_drewN ?_ _ | refine Below.alloc' ?_ _ | (refine Below.setCell ?_ (by first | omega | (simp; done) | (simp; omega) | exact Below.size (by assumption) | exact Nat.le_trans (Below.size (by assumption)) (by simp)) _) | (refine Below.via' ?_ (by assumption)) | (refine Below.alloc ?_ (by first | omega | (simp; done) | (simp; omega) | exact Below.size (by assumption) | exact Nat.le_trans (Below.size (by assumption)) (by simp)) _) | (refine Below.via ?_ (by assumption) (by first | omega | (simp; done) | (simp; omega) | exact Below.size (by assumption) | exact Nat.le_trans (Below.size (by assumption)) (by simp)))))
  have zz := Wb.new (w.alloc (.cells #[.int .i64 l, .slice x F.length c, .slice z W.length d, .int .i64 m] 37)) 37 #[.int .i64 0, .slice none 0 0, .slice none 0 0, .int .i64 0]
  rw [← hW2, World.size_alloc] at zz
  have hs2 : W2.heap.size = w.heap.size + 1 + 1 := by rw [hW2]; simp
  replace zz := Lib.hid zz
  replace hW2 := Lib.hid hW2
  replace q0 := Lib.hid q0
  go_enter Try.func96, Try.ntmps96
  go_wp2_with fail
  rw [← hW2.out]
  refine (copyTable_any l x z _ _ F W m _ hmF (by omega) hcF hnF hcW hnW (hFh.out.below B2) (hWh.out.below B2)).mono ?_
  rintro e w3 ⟨xF, cF, xW, cW, rfl, ⟨a0, a1, a2, a3, o1, o2, o3, o4, o5, hOF, hOW⟩, hb3⟩
  obtain ⟨g, gc, hg⟩ := own_someV hOW.1 hW1
  injection hg with hg1 hg2 hg3
  subst hg1 hg3
  have B3 := Below.via' B2 hb3
  have zz3 := Lib.hid (zz.out.kept hb3)
  have hOFh := Lib.hid hOF
  have hOWh := Lib.hid hOW
  have hsz := hb3.size
  have hn := Wb.new w3 37 #[.int .i64 l, .slice xF F.length cF, .slice (some ⟨g, 0, none⟩) W.length cW, .int .i64 m]
  replace hn := Lib.hid hn
  clear hOF hOW zz q0
  have hbA : Below w3.heap.size w3 (w3.alloc (.cells #[.int .i64 l, .slice xF F.length cF, .slice (some ⟨g, 0, none⟩) W.length cW, .int .i64 m] 37)) := (by repeat (first | exact Below.refl _ _ | assumption | refine Below.drew ?_ | refine below_drewN ?_ _ | refine Below.alloc' ?_ _ | (refine Below.setCell ?_ (by first | omega | (simp; done) | (simp; omega) | exact Below.size (by assumption) | exact Nat.le_trans (Below.size (by assumption)) (by simp)) _) | (refine Below.via' ?_ (by assumption)) | (refine Below.alloc ?_ (by first | omega | (simp; done) | (simp; omega) | exact Below.size (by assumption) | exact Nat.le_trans (Below.size (by assumption)) (by simp)) _) | (refine Below.via ?_ (by assumption) (by first | omega | (simp; done) | (simp; omega) | exact Below.size (by assumption) | exact Nat.le_trans (Below.size (by assumption)) (by simp)))))
  go_wp2
  go_loopw [12] (fun c wr => ∃ i : Nat, i ≤ S.length ∧ c = .int .i64 i ∧ OwR wr a2 a3 3 1 (.slice (some ⟨g, 0, none⟩) W.length cW) W.length (iC (kK (nwL S W) W i)) ∧ OwR wr a0 a1 3 1 (.slice xF F.length cF) F.length (iC F) ∧ Wb wr w3.heap.size 37 #[.int .i64 l, .slice xF F.length cF, .slice (some ⟨g, 0, none⟩) W.length cW, .int .i64 m] ∧ Wb wr (w.heap.size + 1) 37 #[.int .i64 0, .slice none 0 0, .slice none 0 0, .int .i64 0] ∧ Below w.heap.size w wr) (fun c _ => S.length - (intOf c).toNat)
  case atStart => exact ⟨0, by omega, by go_num, by rw [kK_zero]; exact hOWh.out.below hbA, hOFh.out.below hbA, hn.out, zz3.out.kept hbA, Below.via' B3 hbA⟩
  case round =>
    obtain ⟨i, hi, rfl, hOW, hOF, hT, hZ, hb⟩ := hrel
    by_cases hlt : i < S.length
    · obtain ⟨bl, off, nm, lv, rfl, hbl, hSi, ks0, ks1⟩ := (hSh.out.rd.below hb).var hlt
      have hlv := schB_lv hsh.out hSi
      obtain ⟨x0, hx0⟩ : ∃ x0, W[i]? = some x0 := ⟨_, List.getElem?_eq_getElem (by have := hlh.out; omega)⟩
      have hkg := kK_get (A := nwL S W) (W := W) (by rw [nwL_len hlh.out]; exact hi) hx0
      obtain ⟨u0, hu0, k0r⟩ := own_cell hOW.1 (j := i) (by have := hlh.out; omega)
      obtain rfl : u0 = .int .i64 x0 := Option.some.inj (hu0.symm.trans (iC_at hkg))
      have lgr := (own_lt hOW.1).2
      have hb' := Below.via' (Below.refl _ _) hb
      obtain ⟨wv, hwv⟩ : ∃ wv, wv = wr.alloc (.cells #[.string nm, .int .i64 lv] 86) := ⟨_, rfl⟩
      have hv := Wb.new wr 86 #[.string nm, .int .i64 lv]
      have BV : Below wr.heap.size wr wv := by rw [hwv]; exact Below.alloc' (Below.refl _ _) _
      rw [← hwv] at hv
      have v0 := hv.read 0
      have v1 := hv.read 1
      have lv0 := hv.inside
      have hTv := hT.kept BV
      have t2 := hTv.read 2
      have lt0 := hTv.inside
      have k0 := (BV.cell (p := ⟨g, i, none⟩) lgr).trans k0r
      have lg0 : g < wv.heap.size := Nat.lt_of_lt_of_le lgr BV.size
      have hlt' : (i : Int) < (S.length : Int) := by omega
      have hi0 : (0 : Int) ≤ (i : Int) := by omega
      have hiW : (i : Int) < (W.length : Int) := by have := hlh.out; omega
      replace hwv := Lib.hid hwv
      replace hOW := Lib.hid hOW
      replace hOF := Lib.hid hOF
      replace hT := Lib.hid hT
      replace hZ := Lib.hid hZ
      replace hTv := Lib.hid hTv
      clear hv hu0
      replace hkg := Lib.hid hkg
      replace hx0 := Lib.hid hx0
      replace hSi := Lib.hid hSi
      go_upto_region 5 with fail
      rw [← hwv.out]
      refine wp_region_held_drew (S := fun X => Below wv.heap.size wv X) (by kernel_rfl) (Below.drew (Below.refl _ _)) (fun hH => ?_)
      refine wpAnyH_take (i := 0) (v := ?_) rfl (by kernel_rfl) (by kernel_rfl) (by kernel_rfl) (fun _ _ _ h => h) (Or.inl ⟨by rfl, ?_⟩) (by assumption) ?_; rotate_left; · (intro wz hz; (have f0 := (hz.cell (p := ⟨wr.heap.size, 0, none⟩) lv0).trans v0; have f1 := (hz.cell (p := ⟨wr.heap.size, 1, none⟩) lv0).trans v1; have f2 := (hz.cell (p := ⟨w3.heap.size, 2, none⟩) lt0).trans t2; have f3 := (hz.cell (p := ⟨g, i, none⟩) lg0).trans k0); clear hz; go_simp; try with_reducible rfl); (try simp only [Act.put, List.getElem_toArray, List.getElem_cons_succ, List.getElem_cons_zero, List.setIfInBounds_toArray, List.set_cons_zero, List.set_cons_succ])
      refine wpAnyH_take (i := 1) (v := ?_) rfl (by kernel_rfl) (by kernel_rfl) (by kernel_rfl) (fun _ _ _ h => h) (Or.inl ⟨by rfl, ?_⟩) (by assumption) ?_; rotate_left; · (intro wz hz; (have f0 := (hz.cell (p := ⟨wr.heap.size, 0, none⟩) lv0).trans v0; have f1 := (hz.cell (p := ⟨wr.heap.size, 1, none⟩) lv0).trans v1; have f2 := (hz.cell (p := ⟨w3.heap.size, 2, none⟩) lt0).trans t2; have f3 := (hz.cell (p := ⟨g, i, none⟩) lg0).trans k0); clear hz; go_simp; try with_reducible rfl); (try simp only [Act.put, List.getElem_toArray, List.getElem_cons_succ, List.getElem_cons_zero, List.setIfInBounds_toArray, List.set_cons_zero, List.set_cons_succ])
      refine wpAnyH_take (i := 2) (v := ?_) rfl (by kernel_rfl) (by kernel_rfl) (by kernel_rfl) (fun _ _ _ h => h) (Or.inl ⟨by rfl, ?_⟩) (by assumption) ?_; rotate_left; · (intro wz hz; (have f0 := (hz.cell (p := ⟨wr.heap.size, 0, none⟩) lv0).trans v0; have f1 := (hz.cell (p := ⟨wr.heap.size, 1, none⟩) lv0).trans v1; have f2 := (hz.cell (p := ⟨w3.heap.size, 2, none⟩) lt0).trans t2; have f3 := (hz.cell (p := ⟨g, i, none⟩) lg0).trans k0); clear hz; go_simp; try with_reducible rfl); (try simp only [Act.put, List.getElem_toArray, List.getElem_cons_succ, List.getElem_cons_zero, List.setIfInBounds_toArray, List.set_cons_zero, List.set_cons_succ])
      refine wpAnyH_take (i := 3) (v := ?_) rfl (by kernel_rfl) (by kernel_rfl) (by kernel_rfl) (fun _ _ _ h => h) (Or.inl ⟨by rfl, ?_⟩) (by assumption) ?_; rotate_left; · (intro wz hz; (have f0 := (hz.cell (p := ⟨wr.heap.size, 0, none⟩) lv0).trans v0; have f1 := (hz.cell (p := ⟨wr.heap.size, 1, none⟩) lv0).trans v1; have f2 := (hz.cell (p := ⟨w3.heap.size, 2, none⟩) lt0).trans t2; have f3 := (hz.cell (p := ⟨g, i, none⟩) lg0).trans k0); clear hz; go_simp; try with_reducible rfl); (try simp only [Act.put, List.getElem_toArray, List.getElem_cons_succ, List.getElem_cons_zero, List.setIfInBounds_toArray, List.set_cons_zero, List.set_cons_succ])
      refine wpAnyH_take (i := 4) (v := ?_) rfl (by kernel_rfl) (by kernel_rfl) (by kernel_rfl) (fun _ _ _ h => h) (Or.inl ⟨by rfl, ?_⟩) (by assumption) ?_; rotate_left; · (intro wz hz; (have f0 := (hz.cell (p := ⟨wr.heap.size, 0, none⟩) lv0).trans v0; have f1 := (hz.cell (p := ⟨wr.heap.size, 1, none⟩) lv0).trans v1; have f2 := (hz.cell (p := ⟨w3.heap.size, 2, none⟩) lt0).trans t2; have f3 := (hz.cell (p := ⟨g, i, none⟩) lg0).trans k0); clear hz; go_simp; try with_reducible rfl); (try simp only [Act.put, List.getElem_toArray, List.getElem_cons_succ, List.getElem_cons_zero, List.setIfInBounds_toArray, List.set_cons_zero, List.set_cons_succ])
      refine wpAnyH_take (i := 5) (v := ?_) rfl (by kernel_rfl) (by kernel_rfl) (by kernel_rfl) (fun _ _ _ h => h) (Or.inl ⟨by rfl, ?_⟩) (by assumption) ?_; rotate_left; · (intro wz hz; (have f0 := (hz.cell (p := ⟨wr.heap.size, 0, none⟩) lv0).trans v0; have f1 := (hz.cell (p := ⟨wr.heap.size, 1, none⟩) lv0).trans v1; have f2 := (hz.cell (p := ⟨w3.heap.size, 2, none⟩) lt0).trans t2; have f3 := (hz.cell (p := ⟨g, i, none⟩) lg0).trans k0); clear hz; go_simp; try with_reducible rfl); (try simp only [Act.put, List.getElem_toArray, List.getElem_cons_succ, List.getElem_cons_zero, List.setIfInBounds_toArray, List.set_cons_zero, List.set_cons_succ])
      refine wpAnyH_ready (rs := [6]) (by kernel_rfl) (by simp) (AllReadyH.cons rfl (fun K hK => ?_) AllReadyH.nil); go_simp
      refine (kindOfSet_any _ _ _ _ hlv).mono ?_
      rintro e w5 ⟨rfl, hb5⟩
      have h5 := Below.via' hH hb5
      refine hK.out _ _ h5 (fun _ => ?_)
      clear hK K
      (try simp only [Act.put, List.getElem_toArray, List.getElem_cons_succ, List.getElem_cons_zero, List.setIfInBounds_toArray, List.set_cons_zero, List.set_cons_succ])
      refine wpAnyH_take (i := 7) (v := ?_) rfl (by kernel_rfl) (by kernel_rfl) (by kernel_rfl) (fun _ _ _ h => h) (Or.inl ⟨by rfl, ?_⟩) (by assumption) ?_; rotate_left; · (intro wz hz; (skip); clear hz; go_simp; try with_reducible rfl); (try simp only [Act.put, List.getElem_toArray, List.getElem_cons_succ, List.getElem_cons_zero, List.setIfInBounds_toArray, List.set_cons_zero, List.set_cons_succ])
      refine wpAnyH_done (by kernel_rfl) ?_ _
      have B5 := Below.via' BV h5
      have hOW5 := hOW.out.below B5
      have hOF5 := hOF.out.below B5
      have hT5 := hTv.out.kept h5
      have hZ5 := hZ.out.kept B5
      have hbw := Below.via' hb B5
      by_cases hfl : x0 = flZ lv
      · have hkd := kd_eq hlv hfl
        have hst := kK_step (A := nwL S W) (W := W) (nwL_yes hSi.out hx0.out hfl) (by have := hlh.out; omega)
        obtain ⟨u1, hu1, k1⟩ := own_cell hOW5.1 (j := i) (by have := hlh.out; omega)
        have k2 := hOW5.1.frozenAt i
        have hsr := hOW5.1.stored i (.int .i64 0)
        have t5 := hT5.read 2
        have hg5 := hOW5.2 g rfl
        have hrel2 : OwR (w5.setCell ⟨g, i, none⟩ (.int .i64 0)) a2 a3 3 1 (.slice (some ⟨g, 0, none⟩) W.length cW) W.length (iC (kK (nwL S W) W (i + 1))) := by
          rw [← hst, ← iC_setN]
          exact hOW5.turn hsr.1
        have hF2 := hOF5.keep hsr.2 (fun k hk => by
          have e : g = k := by injection hk
          omega)
        have hT2 := wb_farN hT5 hsr.2 (fun hk => by
          have e : g = w3.heap.size := by injection hk
          omega)
        have hZ2 := wb_farN hZ5 hsr.2 (fun hk => by
          have e : g = w.heap.size + 1 := by injection hk
          omega)
        have hbw2 : Below w.heap.size w (w5.setCell ⟨g, i, none⟩ (.int .i64 0)) := Below.setCell hbw (by show w.heap.size ≤ g; omega) _
        replace hrel2 := Lib.hid hrel2
        replace hF2 := Lib.hid hF2
        replace hT2 := Lib.hid hT2
        replace hZ2 := Lib.hid hZ2
        replace hsr := Lib.hid hsr
        replace hst := Lib.hid hst
        replace hfl := Lib.hid hfl
        replace hbw2 := Lib.hid hbw2
        clear hOW5 hOF5 hT5 hZ5 hu1
        go_wp2
        go_roundw
        case rel => exact ⟨i + 1, by omega, by go_num, hrel2.out, hF2.out, hT2.out, hZ2.out, hbw2.out⟩
        case measure => simp [intOf]; omega
      · have hkd := kd_ne hfl
        have hst := kK_same (nwL_no hSi.out hx0.out hfl) hx0.out
        rw [← hst] at hOW5
        replace hOW5 := Lib.hid hOW5
        replace hOF5 := Lib.hid hOF5
        replace hT5 := Lib.hid hT5
        replace hZ5 := Lib.hid hZ5
        replace hst := Lib.hid hst
        replace hfl := Lib.hid hfl
        go_wp2
        go_roundw
        case rel => exact ⟨i + 1, by omega, by go_num, hOW5.out, hOF5.out, hT5.out, hZ5.out, hbw⟩
        case measure => simp [intOf]; omega
    · have hij : i = S.length := by omega
      subst hij
      rw [kK_all (nwL_len hlh.out) hlh.out] at hOW
      have ta := hT.read 0; have tb := hT.read 1; have tc := hT.read 2; have td := hT.read 3; have te := hT.free 0; have tf := hT.free 1; have tg := hT.free 2; have th := hT.free 3
      have ya := hZ.read 0; have yb := hZ.read 1; have yc := hZ.read 2; have yd := hZ.read 3; have ye := hZ.free 0; have yf := hZ.free 1; have yg := hZ.free 2; have yh := hZ.free 3
      have yin := hZ.inside
      have tin := hT.inside
      replace hOW := Lib.hid hOW
      replace hOF := Lib.hid hOF
      have hl2 := nwL_len2 (S := S) hlh.out
      replace hl2 := Lib.hid hl2
      have hbs := hb.size
      go_wp2
      refine bodyPost_ret (v := .agg #[.int .i64 l, .slice xF F.length cF, .slice (some ⟨g, 0, none⟩) W.length cW, .int .i64 m]) (by simp [results, Try.results96, go_sem, *]) rfl ?_
      refine retT_of (W := W) hl2.out ⟨a0, a1, a2, a3, ?_, ?_, ?_, ?_, o5, ?_, ?_⟩ (by repeat (first | exact Below.refl _ _ | assumption | refine Below.drew ?_ | refine below_drewN ?_ _ | refine Below.alloc' ?_ _ | (refine Below.setCell ?_ (by first | omega | (simp; done) | (simp; omega) | exact Below.size (by assumption) | exact Nat.le_trans (Below.size (by assumption)) (by simp)) _) | (refine Below.via' ?_ (by assumption)) | (refine Below.alloc ?_ (by first | omega | (simp; done) | (simp; omega) | exact Below.size (by assumption) | exact Nat.le_trans (Below.size (by assumption)) (by simp)) _) | (refine Below.via ?_ (by assumption) (by first | omega | (simp; done) | (simp; omega) | exact Below.size (by assumption) | exact Nat.le_trans (Below.size (by assumption)) (by simp)))))
      omega
      simp; omega
      omega
      simp; omega
      repeat (refine OwR.set ?_ _ _ (Or.inl (by show w.heap.size + 1 < a0; omega)))
      exact hOF.out
      repeat (refine OwR.set ?_ _ _ (Or.inl (by show w.heap.size + 1 < a2; omega)))
      rw [hl2.out]
      exact hOW.out
end Go.Proofs.Ytgkaalonmkcclaa

namespace Go.Proofs.Ytgkaalonmkcclaa
open Go.RowKit Go.Shelf
set_option maxRecDepth 100000

theorem toF_bdR (k : Nat) (ps : List (Nat × Int)) : (∀ p ∈ ps, -1000 ≤ p.2 ∧ p.2 ≤ 1000) → ∀ j, -1000 * (ps.length : Int) ≤ (toF (List.replicate k 0) ps).getD j 0 ∧ (toF (List.replicate k 0) ps).getD j 0 ≤ 1000 * (ps.length : Int) := by
  refine rev_ind (P := fun ps => (∀ p ∈ ps, -1000 ≤ p.2 ∧ p.2 ≤ 1000) → ∀ j, -1000 * (ps.length : Int) ≤ (toF (List.replicate k 0) ps).getD j 0 ∧ (toF (List.replicate k 0) ps).getD j 0 ≤ 1000 * (ps.length : Int)) (fun _ j => ?_) (fun r x ih hb j => ?_) ps
  · have e : (List.replicate k (0 : Int)).getD j 0 = 0 := by
      rw [List.getD_eq_getElem?_getD, List.getElem?_replicate]
      split <;> rfl
    show _ ≤ (List.replicate k (0 : Int)).getD j 0 ∧ (List.replicate k (0 : Int)).getD j 0 ≤ _
    rw [e]
    simp
  · rw [toF_snoc, List.getD_eq_getElem?_getD, List.getElem?_set]
    have hr := ih (fun p hp => hb p (List.mem_append_left _ hp))
    have h1 := hr j
    have h2 := hr x.1
    have h3 := hb x (List.mem_append_right _ (by simp))
    simp only [List.length_append, List.length_cons, List.length_nil]
    split
    · split
      · simp only [Option.getD_some]
        omega
      · simp only [Option.getD_none]
        omega
    · rw [← List.getD_eq_getElem?_getD]
      omega
theorem toP_bd {P : List Int} {S : List (ByteArray × Int)} {l : Int} {F W : List Int} {m : Int} {Q : List PR} (htg : TgP P S l F W m) (hdk : dokB S (pM Q) = true) (hty : tyB P (pM Q) = true) : ∀ j, j ≤ Q.length → ∀ p ∈ toP P S l F W m (pM Q) j, -1000 ≤ p.2 ∧ p.2 ≤ 1000
  | 0, _, p, hp => by cases hp
  | j + 1, hj, p, hp => by
    have ih := toP_bd htg hdk hty j (by omega)
    by_cases h : toIx P S l F W (pM Q) j = -1
    · rw [toP_skip h] at hp
      exact ih p hp
    · rw [toP_take h] at hp
      rcases List.mem_append.1 hp with hp | hp
      · exact ih p hp
      · obtain rfl := List.mem_singleton.1 hp
        have hq : Q[j]? = some Q[j] := List.getElem?_eq_getElem (by omega)
        obtain ⟨k, hka, hcl⟩ := sv_cl hdk hty hq
        show -1000 ≤ toNx P l W m (pM Q) j ∧ toNx P l W m (pM Q) j ≤ 1000
        rw [toNx_at hq, hka]
        exact clN_bd htg hcl
set_option maxHeartbeats 8000000 in
theorem uTable_any (p y x z v : Option Addr) (c c1 c2 c3 c4 : Nat) (P : List Int) (S : List (ByteArray × Int)) (l : Int) (F W : List Int) (m : Int) (Q : List PR) (w : World) (htg : TgP P S l F W m) (hdk : dokB S (pM Q) = true) (hty : tyB P (pM Q) = true) (hP : IIn w p P) (hS : SIn w y c1 S) (hT : TIn w x z F W) (hQ : DIn w v Q) :
    Calls Try.prog 84 #[.agg #[.slice p P.length c], .slice y S.length c1, .agg #[.int .i64 l, .slice x F.length c2, .slice z W.length c3, .int .i64 m], .slice v Q.length c4] w fun e w' => ∃ u, e = .returned u ∧ w'.ownsRow w.heap.size 3 1 u (tcZ P S l F).toNat (iC (toF (List.replicate (tcZ P S l F).toNat 0) (toP P S l F W m (pM Q) Q.length))) ∧ Below w.heap.size w w' := by
  obtain ⟨i0, hii, hz0, hz1, hz2⟩ := info_parts Try.infoInt
  have hQh := Lib.hid hQ
  have hQ40 : Q.length ≤ 40 := by have := dokB_len hdk; rwa [pM_len] at this
  have hth := Lib.hid htg
  have hdkh := Lib.hid hdk
  have htyh := Lib.hid hty
  have hpb := Lib.hid (toP_bd htg hdk hty)
  have hc0 : 0 ≤ tcZ P S l F := by have := tc_pos htg; omega
  have hc6 := htg.c
  have hgh := Lib.hid htg.g
  have hsh := Lib.hid htg.s
  have hrh := Lib.hid htg.r
  clear hQ htg hdk hty
  have hPh := Lib.hid hP
  have hSh := Lib.hid hS
  have hFh := Lib.hid hT.1
  have hWh := Lib.hid hT.2
  clear hP hS hT
  have p1 := Lib.hid (QB.new w p P.length c 33)
  have p2 := Lib.hid (TQ.new (w.alloc (.cells #[.slice p P.length c] 33)) l x F.length c2 z W.length c3 m 37)
  obtain ⟨w0, hw0⟩ : ∃ w0, w0 = (w.alloc (.cells #[.slice p P.length c] 33)).alloc (.cells #[.int .i64 l, .slice x F.length c2, .slice z W.length c3, .int .i64 m] 37) := ⟨_, rfl⟩
  have B0 : Below w.heap.size w w0 := by rw [hw0]; exact (by repeat (first | exact Below.refl _ _ | assumption | refine Below.drew ?_ | refine below_drewN ?_ _ | refine Below.alloc' ?_ _ | (refine Below.setCell ?_ (by first | omega | (simp; done) | (simp; omega) | exact Below.size (by assumption) | exact Nat.le_trans (Below.size (by assumption)) (by simp)) _) | (refine Below.via' ?_ (by assumption)) | (refine Below.alloc ?_ (by first | omega | (simp; done) | (simp; omega) | exact Below.size (by assumption) | exact Nat.le_trans (Below.size (by assumption)) (by simp)) _) | (refine Below.via ?_ (by assumption) (by first | omega | (simp; done) | (simp; omega) | exact Below.size (by assumption) | exact Nat.le_trans (Below.size (by assumption)) (by simp)))))
  have g0 : Hid (QB w0 w.heap.size p P.length c) := by
    rw [hw0]
    exact p1.out.below (show Below (w.alloc (.cells #[.slice p P.length c] 33)).heap.size (w.alloc (.cells #[.slice p P.length c] 33)) _ from (by repeat (first | exact Below.refl _ _ | assumption | refine Below.drew ?_ | refine below_drewN ?_ _ | refine Below.alloc' ?_ _ | (refine Below.setCell ?_ (by first | omega | (simp; done) | (simp; omega) | exact Below.size (by assumption) | exact Nat.le_trans (Below.size (by assumption)) (by simp)) _) | (refine Below.via' ?_ (by assumption)) | (refine Below.alloc ?_ (by first | omega | (simp; done) | (simp; omega) | exact Below.size (by assumption) | exact Nat.le_trans (Below.size (by assumption)) (by simp)) _) | (refine Below.via ?_ (by assumption) (by first | omega | (simp; done) | (simp; omega) | exact Below.size (by assumption) | exact Nat.le_trans (Below.size (by assumption)) (by simp))))))
  have t0 : Hid (TQ w0 (w.heap.size + 1) l x F.length c2 z W.length c3 m) := by
    have h0 := p2.out
    rw [World.size_alloc, ← hw0] at h0
    exact h0
  have z0 : w0.heap.size = w.heap.size + 1 + 1 := by rw [hw0]; simp
  clear p1 p2
  obtain ⟨n, hn⟩ := Int.eq_ofNat_of_zero_le hc0
  have hn6 : n ≤ 600 := by omega
  have hbb : i0.bytes * n ≤ 281474976710656 := by rw [hz2]; omega
  have hmm : n ≤ maxLen := by unfold maxLen; omega
  have hnt : (tcZ P S l F).toNat = n := by rw [hn, Int.toNat_natCast]
  have hnh := Lib.hid hn
  rw [hnt]
  clear hc0 hc6
  go_enter Try.func84, Try.ntmps84
  go_wp2_with fail
  rw [← hw0]
  replace hw0 := Lib.hid hw0
  replace z0 := Lib.hid z0
  refine (uCount_any p y x z _ _ _ _ P S l m F W _ hgh.out hsh.out hrh.out (hPh.out.below B0) (hSh.out.below B0) (hFh.out.below B0)).mono ?_
  rintro e w5 ⟨rfl, hb5⟩
  have B5 : Below w.heap.size w w5 := Below.via' B0 hb5
  have g5 := Lib.hid (g0.out.below hb5)
  have t5 := Lib.hid (t0.out.below hb5)
  obtain ⟨ka5, kb5, kc5⟩ := g5.out
  obtain ⟨ta5, tb5, tc5, td5, te5⟩ := t5.out
  try clear ka0 kb0 kc0 ta0 tb0 tc0 td0 te0
  clear hb5
  rw [hn]
  clear hn hnt
  go_wp2_with (at_make; go_loud (refine wpList_make_full _ rfl _ _ 22 rfl w5.heap.size 3 i0 (.int .i64 0) 1 Try.underlying22 hii hz0 hz1 .i64 .i64 _ _ n rfl rfl rfl rfl hbb hmm (Nat.le_refl _) (fun w6 hown hgrow => ?_)))
  have hb6 : Below w5.heap.size w5 w6 := (Below.refl _ _).grown hgrow (Nat.le_refl _) (by intro k hk; cases hk)
  rw [made_zeros] at hown
  have hownh := Lib.hid hown
  clear hgrow hii hz0 hz1 hz2 hbb hmm hown ka5 kb5 kc5 ta5 tb5 tc5 td5 te5
  go_wp2
  go_loopw [21] (fun q wr => ∃ j : Nat, j ≤ Q.length ∧ q = .int .i64 j ∧ wr.ownsRow w5.heap.size 3 1 (.slice (some ⟨w5.heap.size, 0, none⟩) n n) n (iC (toF (List.replicate n 0) (toP P S l F W m (pM Q) j))) ∧ Below w5.heap.size w5 wr) (fun q _ => Q.length - (intOf q).toNat)
  case atStart => exact ⟨0, by omega, by go_num, hownh.out, hb6⟩
  case round =>
    clear hownh hb6
    obtain ⟨j, hj, rfl, hown, hb⟩ := hrel
    have hownh := Lib.hid hown
    clear hown
    have Bw : Below w.heap.size w wr := Below.via' B5 hb
    by_cases hlt : j < Q.length
    · obtain ⟨bl, off, q, rfl, hbl, hQj, hc0, hc1, hc2⟩ := (hQh.out.2.2.below Bw).rec hlt
      obtain ⟨k, hka, hcl⟩ := sv_cl hdkh.out htyh.out hQj
      have hqr := Lib.hid ((hQh.out.2.1 q (List.mem_of_getElem? hQj)).2.2.below Bw)
      have hxi := toIx_at (P := P) (S := S) (l := l) (F := F) (W := W) hQj
      have hni := toNx_at (P := P) (l := l) (W := W) (m := m) hQj
      have hclh := Lib.hid hcl
      obtain ⟨qa, qh, qx, qc, qL⟩ := q
      have hka : qa = (k : Int) := hka
      subst hka
      have hlt' : (j : Int) < (Q.length : Int) := by omega
      replace hQj := Lib.hid hQj
      replace hxi : toIx P S l F W (pM Q) j = clI P S l F W (k : Int) qL := hxi
      replace hni : toNx P l W m (pM Q) j = clN P l W m (k : Int) qL := hni
      have hci := clI_bd hth.out hclh.out
      have hcN := clN_bd (m := m) hth.out hclh.out
      have hc2 : wr.cell? ⟨bl, off + j * 3 + 2, none⟩ = some (.slice qx qL.length qc) := hc2
      have BA : Below wr.heap.size wr (wr.alloc (.cells #[.int .i64 (k : Int), .int .i64 qh, .slice qx qL.length qc] 72)) := (by repeat (first | exact Below.refl _ _ | assumption | refine Below.drew ?_ | refine below_drewN ?_ _ | refine Below.alloc' ?_ _ | (refine Below.setCell ?_ (by first | omega | (simp; done) | (simp; omega) | exact Below.size (by assumption) | exact Nat.le_trans (Below.size (by assumption)) (by simp)) _) | (refine Below.via' ?_ (by assumption)) | (refine Below.alloc ?_ (by first | omega | (simp; done) | (simp; omega) | exact Below.size (by assumption) | exact Nat.le_trans (Below.size (by assumption)) (by simp)) _) | (refine Below.via ?_ (by assumption) (by first | omega | (simp; done) | (simp; omega) | exact Below.size (by assumption) | exact Nat.le_trans (Below.size (by assumption)) (by simp)))))
      obtain ⟨WA, hWA⟩ : ∃ WA, WA = wr.alloc (.cells #[.int .i64 (k : Int), .int .i64 qh, .slice qx qL.length qc] 72) := ⟨_, rfl⟩
      have hqn := RB.new wr k qh qx qL.length qc 72
      rw [← hWA] at BA hqn
      have hqn := Lib.hid hqn
      have hownA := Lib.hid (own_below hownh.out BA)
      have BwA : Below w.heap.size w WA := Below.via' Bw BA
      have B5A : Below w5.heap.size w5 WA := Below.via' hb BA
      replace hWA := Lib.hid hWA
      clear hcl
      have FF := And.intro (g5.out.below B5A) (And.intro (t5.out.below B5A) hqn.out)
      rw [hWA.out] at FF
      obtain ⟨⟨ka, kb, kc⟩, ⟨ta, tb, tc, td, te⟩, ⟨ra, rb, rc, rd⟩⟩ := FF
      go_wp2_with fail
      rw [← hWA.out]
      refine (uCell_any _ _ _ _ _ _ _ _ _ _ P S l F W m k qh qL _ hth.out hclh.out (hPh.out.below BwA) (hSh.out.below BwA) ⟨hFh.out.below BwA, hWh.out.below BwA⟩ (hqr.out.below BA)).mono ?_
      rintro e w2 ⟨rfl, hb2⟩
      have hb2' : Below w5.heap.size w5 w2 := Below.via' B5A hb2
      have ho2 := own_below hownA.out hb2
      by_cases hneg : clI P S l F W (k : Int) qL = -1
      · have hsk := Lib.hid (toP_skip (m := m) (hxi.trans hneg))
        have hge : ¬ (0 ≤ clI P S l F W (k : Int) qL) := by omega
        have hlt2 : clI P S l F W (k : Int) qL < 0 := by omega
        replace hneg := Lib.hid hneg
        replace ho2 := Lib.hid ho2
        replace hxi := Lib.hid hxi
        replace hni := Lib.hid hni
        go_wp2
        go_roundw
        case rel => exact ⟨j + 1, by omega, by go_num, by rw [hsk.out]; exact ho2.out, hb2'⟩
        case measure => simp [intOf]; omega
      · have htk := toP_take (m := m) (show toIx P S l F W (pM Q) j ≠ -1 by rw [hxi]; exact hneg)
        rw [hxi, hni] at htk
        obtain ⟨i, hi⟩ := Int.eq_ofNat_of_zero_le (show 0 ≤ clI P S l F W (k : Int) qL by omega)
        have hin : i < n := by have := hnh.out; omega
        rw [hi] at htk
        rw [Int.toNat_natCast] at htk
        rw [hi]
        have hst : toF (List.replicate n 0) (toP P S l F W m (pM Q) (j + 1)) = (toF (List.replicate n 0) (toP P S l F W m (pM Q) j)).set i ((toF (List.replicate n 0) (toP P S l F W m (pM Q) j)).getD i 0 + clN P l W m (k : Int) qL) := by rw [htk]; exact toF_snoc _ _ _
        have hbd := toF_bdR n _ (hpb.out j (by omega)) i
        have hpl := toP_len (P := P) (S := S) (l := l) (F := F) (W := W) (m := m) (M := pM Q) j
        have k0 := own_intA ho2 hin
        have k2 := ho2.frozenAt i
        have t3 : wrap64 ((toF (List.replicate n 0) (toP P S l F W m (pM Q) j)).getD i 0 + clN P l W m (k : Int) qL) = (toF (List.replicate n 0) (toP P S l F W m (pM Q) j)).getD i 0 + clN P l W m (k : Int) qL := IntWalk.wrap64_in _ (by omega)
        replace t3 := Lib.hid t3
        have hsr := ho2.stored i (.int .i64 ((toF (List.replicate n 0) (toP P S l F W m (pM Q) j)).getD i 0 + clN P l W m (k : Int) qL))
        rw [iC_setN, ← hst] at hsr
        have hb3 : Below w5.heap.size w5 (w2.setCell ⟨w5.heap.size, i, none⟩ (.int .i64 ((toF (List.replicate n 0) (toP P S l F W m (pM Q) j)).getD i 0 + clN P l W m (k : Int) qL))) := Below.setCell hb2' (Nat.le_refl _) _
        have hin' : (i : Int) < (n : Int) := by omega
        have hi0 : (0 : Int) ≤ (i : Int) := by omega
        have hrel2 := Lib.hid (And.intro hsr.1 hb3)
        replace hst := Lib.hid hst
        clear hsr hb3 hbd hpl htk hi hneg hxi hni ho2
        go_wp2
        rw [← List.getD_eq_getElem?_getD, t3.out]
        go_roundw
        case rel => exact ⟨j + 1, by omega, by go_num, hrel2.out.1, hrel2.out.2⟩
        case measure => simp [intOf]; omega
    · have hij : j = Q.length := by omega
      subst hij
      have hro := Lib.hid (own_more hownh.out B5.size)
      go_wp2
      go_ret
      exact ⟨_, rfl, hro.out, Bw⟩
set_option maxHeartbeats 4000000 in
theorem sTO_x (p y x z v : Option Addr) (c c1 c2 c3 c4 : Nat) (P : List Int) (S : List (ByteArray × Int)) (l : Int) (F W : List Int) (m : Int) (Q : List PR) (w : World) (hP : IIn w p P) (hS : SIn w y c1 S) (hT : TIn w x z F W) (hQ : DIn w v Q) :
    Calls Try.prog 38 #[.agg #[.slice p P.length c], .slice y S.length c1, .agg #[.int .i64 l, .slice x F.length c2, .slice z W.length c3, .int .i64 m], .slice v Q.length c4] w (RetLB (toL P S l F W m (pM Q)) (toB P S l F W m (pM Q)) w) := by
  have hQh := Lib.hid hQ
  clear hQ
  have hPh := Lib.hid hP
  have hSh := Lib.hid hS
  have hFh := Lib.hid hT.1
  have hWh := Lib.hid hT.2
  clear hP hS hT
  have p1 := Lib.hid (QB.new w p P.length c 33)
  have p2 := Lib.hid (TQ.new (w.alloc (.cells #[.slice p P.length c] 33)) l x F.length c2 z W.length c3 m 37)
  obtain ⟨w0, hw0⟩ : ∃ w0, w0 = (w.alloc (.cells #[.slice p P.length c] 33)).alloc (.cells #[.int .i64 l, .slice x F.length c2, .slice z W.length c3, .int .i64 m] 37) := ⟨_, rfl⟩
  have B0 : Below w.heap.size w w0 := by rw [hw0]; exact (by repeat (first | exact Below.refl _ _ | assumption | refine Below.drew ?_ | refine below_drewN ?_ _ | refine Below.alloc' ?_ _ | (refine Below.setCell ?_ (by first | omega | (simp; done) | (simp; omega) | exact Below.size (by assumption) | exact Nat.le_trans (Below.size (by assumption)) (by simp)) _) | (refine Below.via' ?_ (by assumption)) | (refine Below.alloc ?_ (by first | omega | (simp; done) | (simp; omega) | exact Below.size (by assumption) | exact Nat.le_trans (Below.size (by assumption)) (by simp)) _) | (refine Below.via ?_ (by assumption) (by first | omega | (simp; done) | (simp; omega) | exact Below.size (by assumption) | exact Nat.le_trans (Below.size (by assumption)) (by simp)))))
  have g0 : Hid (QB w0 w.heap.size p P.length c) := by
    rw [hw0]
    exact p1.out.below (show Below (w.alloc (.cells #[.slice p P.length c] 33)).heap.size (w.alloc (.cells #[.slice p P.length c] 33)) _ from (by repeat (first | exact Below.refl _ _ | assumption | refine Below.drew ?_ | refine below_drewN ?_ _ | refine Below.alloc' ?_ _ | (refine Below.setCell ?_ (by first | omega | (simp; done) | (simp; omega) | exact Below.size (by assumption) | exact Nat.le_trans (Below.size (by assumption)) (by simp)) _) | (refine Below.via' ?_ (by assumption)) | (refine Below.alloc ?_ (by first | omega | (simp; done) | (simp; omega) | exact Below.size (by assumption) | exact Nat.le_trans (Below.size (by assumption)) (by simp)) _) | (refine Below.via ?_ (by assumption) (by first | omega | (simp; done) | (simp; omega) | exact Below.size (by assumption) | exact Nat.le_trans (Below.size (by assumption)) (by simp))))))
  have t0 : Hid (TQ w0 (w.heap.size + 1) l x F.length c2 z W.length c3 m) := by
    have h0 := p2.out
    rw [World.size_alloc, ← hw0] at h0
    exact h0
  have z0 : w0.heap.size = w.heap.size + 1 + 1 := by rw [hw0]; simp
  clear p1 p2
  go_enter Try.func38, Try.ntmps38
  go_wp2_with fail
  rw [← hw0]
  replace hw0 := Lib.hid hw0
  replace z0 := Lib.hid z0
  refine (uGood_any p y x z _ _ _ _ P S l m F W _ (hPh.out.below B0) (hSh.out.below B0) ⟨hFh.out.below B0, hWh.out.below B0⟩).mono ?_
  rintro e w1 ⟨rfl, hb1⟩
  have B1 : Below w.heap.size w w1 := Below.via' B0 hb1
  have g1 := Lib.hid (g0.out.below hb1)
  have t1 := Lib.hid (t0.out.below hb1)
  obtain ⟨ka1, kb1, kc1⟩ := g1.out
  obtain ⟨ta1, tb1, tc1, td1, te1⟩ := t1.out
  try clear ka0 kb0 kc0 ta0 tb0 tc0 td0 te0
  clear hb1
  cases htg : tgB P S l F W m
  · have hv := Lib.hid (to_no1 (M := pM Q) htg)
    go_wp2
    go_ret2
    exact riLB_no (to_no0 hv.out) hv.out B1
  have htp := tg_iff.1 htg
  have hgh := Lib.hid htp.g
  have hsh := Lib.hid htp.s
  have hth := Lib.hid htp
  replace htg := Lib.hid htg
  clear htp
  go_wp2_with fail
  refine (uSurvey_any _ _ _ _ _ _ P S Q _ (hPh.out.below B1) (hSh.out.below B1) (hQh.out.below B1)).mono ?_
  rintro e w2 ⟨rfl, hb2⟩
  have B2 : Below w.heap.size w w2 := Below.via' B1 hb2
  have g2 := Lib.hid (g1.out.below hb2)
  have t2 := Lib.hid (t1.out.below hb2)
  obtain ⟨ka2, kb2, kc2⟩ := g2.out
  obtain ⟨ta2, tb2, tc2, td2, te2⟩ := t2.out
  try clear ka1 kb1 kc1 ta1 tb1 tc1 td1 te1
  clear hb2
  rw [show (geB P && idB S (pM Q) && tyB P (pM Q)) = (dokB S (pM Q) && tyB P (pM Q)) by unfold idB; rw [hgh.out, hsh.out]; rfl]
  cases hsv : (dokB S (pM Q) && tyB P (pM Q))
  · have hv := Lib.hid (to_no2 (l := l) (F := F) (W := W) (m := m) hsv)
    go_wp2
    go_ret2
    exact riLB_no (to_no0 hv.out) hv.out B2
  have hsv2 := hsv
  rw [Bool.and_eq_true] at hsv2
  have hv := Lib.hid (to_yes hth.out hsv)
  have hdk := Lib.hid hsv2.1
  have hty := Lib.hid hsv2.2
  clear hsv2 hsv
  go_wp2_with fail
  refine (uTable_any p y x z v _ _ _ _ _ P S l F W m Q _ hth.out hdk.out hty.out (hPh.out.below B2) (hSh.out.below B2) ⟨hFh.out.below B2, hWh.out.below B2⟩ (hQh.out.below B2)).mono ?_
  rintro e w5 ⟨u, rfl, ho, hb5⟩
  have ho := Lib.hid (own_more ho B2.size)
  have B5 := Below.via' B2 hb5
  go_wp2
  go_ret2
  rw [hv.out.1, hv.out.2]
  refine ⟨_, rfl, ?_, B5⟩
  rw [toF_len, List.length_replicate, pM_len]
  exact ho.out
theorem sTO_m (p y x z v : Option Addr) (c c1 c2 c3 c4 : Nat) (P : List Int) (S : List (ByteArray × Int)) (l : Int) (F W : List Int) (m : Int) (Q : List PR) (w : World) (hP : IIn w p P) (hS : SIn w y c1 S) (hT : TIn w x z F W) (hQ : DIn w v Q) (M : List RV) (hM : pM Q = M) :
    Calls Try.prog 38 #[.agg #[.slice p P.length c], .slice y S.length c1, .agg #[.int .i64 l, .slice x F.length c2, .slice z W.length c3, .int .i64 m], .slice v Q.length c4] w (RetLB (toL P S l F W m M) (toB P S l F W m M) w) := by
  subst hM
  exact sTO_x p y x z v c c1 c2 c3 c4 P S l F W m Q w hP hS hT hQ
theorem iTO_m (p y x z v : Option Addr) (c c1 c2 c3 c4 : Nat) (P : List Int) (S : List (ByteArray × Int)) (l : Int) (F W : List Int) (m : Int) (Q : List PR) (w : World) (hP : IIn w p P) (hS : SIn w y c1 S) (hT : TIn w x z F W) (hQ : DIn w v Q) (M : List RV) (hM : pM Q = M) :
    Calls Try.prog 40 #[.agg #[.slice p P.length c], .slice y S.length c1, .agg #[.int .i64 l, .slice x F.length c2, .slice z W.length c3, .int .i64 m], .slice v Q.length c4] w (RetLB (toL P S l F W m M) (toB P S l F W m M) w) := by
  subst hM
  exact iTO_x p y x z v c c1 c2 c3 c4 P S l F W m Q w hP hS hT hQ
end Go.Proofs.Ytgkaalonmkcclaa

namespace Go.Proofs.Ytgkaalonmkcclaa
open Go.RowKit
set_option maxRecDepth 100000

/-- Data and a bool that the program's function gives: its own memory. -/
def DsI (b : Bool) (R : List RV) (w : World) (e : Ending) (w' : World) : Prop :=
  ∃ v T, e = .returned (.tuple #[v, .bool b]) ∧ pM T = R ∧ OwD w' w.heap.size w'.heap.size 72 3 v T ∧ Below w.heap.size w w'
/-- Data and a bool that the model's function gives. -/
def DsS (b : Bool) (R : List RV) (w : World) (e : Ending) (w' : World) : Prop :=
  ∃ x c T, e = .returned (.tuple #[.slice x (List.length (α := PR) T) c, .bool b]) ∧ pM T = R ∧ DRd w' w.heap.size w'.heap.size x T ∧ Below w.heap.size w w'
def rsL (b : Bool) (R : List RV) : List RV := if b then R else []
theorem OwD.nil (w : World) (lo hi : Nat) (tr ti : TypeId) : OwD w lo hi tr ti (.slice none 0 0) [] :=
  ⟨⟨World.ownsRow_nil _ _ _ _, fun k hk => (by cases hk)⟩, ⟨fun q hq => (by cases hq), by simp⟩, fun q hq => (by cases hq)⟩
theorem DRd.nil (w : World) (lo hi : Nat) : DRd w lo hi none [] := ⟨Or.inl rfl, fun b off e => by (cases e), fun q hq => by (cases hq)⟩
theorem DsI.no {b : Bool} {R : List RV} {w w' : World} (hb : b = false) (hw : Below w.heap.size w w') : DsI b (rsL b R) w (.returned (.tuple #[.slice none 0 0, .bool false])) w' := by
  subst hb
  exact ⟨_, [], rfl, rfl, OwD.nil _ _ _ _ _, hw⟩
theorem DsS.no {b : Bool} {R : List RV} {w w' : World} (hb : b = false) (hw : Below w.heap.size w w') : DsS b (rsL b R) w (.returned (.tuple #[.slice none 0 0, .bool false])) w' := by
  subst hb
  exact ⟨none, 0, [], rfl, rfl, DRd.nil _ _ _, hw⟩
theorem DsI.yes {b : Bool} {R : List RV} {w w' : World} {v : Value} {T : List PR} (hb : b = true) (hT : pM T = R) (ho : OwD w' w.heap.size w'.heap.size 72 3 v T) (hw : Below w.heap.size w w') : DsI b (rsL b R) w (.returned (.tuple #[v, .bool true])) w' := by
  subst hb
  exact ⟨v, T, rfl, hT, ho, hw⟩
theorem DsS.yes {b : Bool} {R : List RV} {w w' : World} {x : Option Addr} {c : Nat} {T : List PR} (hb : b = true) (hT : pM T = R) (ho : DRd w' w.heap.size w'.heap.size x T) (hw : Below w.heap.size w w') : DsS b (rsL b R) w (.returned (.tuple #[.slice x T.length c, .bool true])) w' := by
  subst hb
  exact ⟨x, c, T, rfl, hT, ho, hw⟩

/-- How many values all records have, without their places. -/
def totR (R : List RV) : Nat := (R.map fun q => q.2.2.length).sum
theorem tot_pM (Q : List PR) : tot Q = totR (pM Q) := by unfold tot totR pM; rw [List.map_map]; rfl
theorem tot_eq {T Q : List PR} (h : pM T = pM Q) : tot T = tot Q := by rw [tot_pM, tot_pM, h]
theorem totR_le {R : List RV} {n : Nat} (h : ∀ q ∈ R, q.2.2.length ≤ n) : totR R ≤ R.length * n := by
  unfold totR
  induction R with
  | nil => simp
  | cons q r ih =>
    have h1 := h q (by simp)
    have h2 := ih (fun p hp => h p (List.mem_cons_of_mem _ hp))
    rw [List.map_cons, List.sum_cons, List.length_cons, Nat.add_mul]
    omega
theorem rsL_small {b : Bool} {R : List RV} (h : b = true → R.length ≤ 40 ∧ ∀ q ∈ R, q.2.2.length ≤ 6) : (rsL b R).length ≤ 40 ∧ totR (rsL b R) ≤ 240 := by
  unfold rsL
  cases b with
  | false => simp [totR]
  | true =>
    obtain ⟨h1, h2⟩ := h rfl
    have h3 := totR_le h2
    simp only [if_true]
    exact ⟨h1, by omega⟩
theorem dok_small {S : List (ByteArray × Int)} {R : List RV} (h : idB S R = true) : R.length ≤ 40 ∧ ∀ q ∈ R, q.2.2.length ≤ 6 := by
  unfold idB at h
  rw [Bool.and_eq_true] at h
  refine ⟨dokB_len h.2, fun q hq => ?_⟩
  have := fit_len (rokB_get (dokB_mem h.2 hq)).2.2.2.2
  have := (schB_len h.1).2
  omega
theorem DRd.inn {w : World} {lo hi : Nat} {x : Option Addr} {Q : List PR} (h : DRd w lo hi x Q) : ∀ q ∈ Q, Rd w q.x (iC q.L) := fun q hq => (h.2.2 q hq).1
theorem OwD.rd {w : World} {lo hi : Nat} {tr ti : TypeId} {x : Option Addr} {c : Nat} {Q : List PR} (h : OwD w lo hi tr ti (.slice x Q.length c) Q) : Rd w x (pC Q) := h.1.rd
theorem OwD.inn {w : World} {lo hi : Nat} {tr ti : TypeId} {v : Value} {Q : List PR} (h : OwD w lo hi tr ti v Q) : ∀ q ∈ Q, Rd w q.x (iC q.L) := fun q hq => (h.2.1.1 q hq).rd
theorem tot_all {Q : List PR} (h : tot Q ≤ 1048576) : ∀ q ∈ Q, q.L.length ≤ 9223372036854775807 := fun q hq => by have := tot_mem hq; omega
end Go.Proofs.Ytgkaalonmkcclaa
