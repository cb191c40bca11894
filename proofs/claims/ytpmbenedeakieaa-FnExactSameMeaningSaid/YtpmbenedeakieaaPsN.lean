import Derived.Test.YtpmbenedeakieaaPqT
import Derived.Test.YtpmbenedeakieaaEdV
import Derived.Test.YtpmbenedeakieaaApp
import Derived.Deep.RegionHeld
import Derived.Deep.RegionWith
import Derived.Test.YtpmbenedeakieaaPqK
import Derived.Test.YtpmbenedeakieaaEdI
import Derived.Test.YtpmbenedeakieaaPqU
namespace Go.Proofs.Ytpmbenedeakieaa
open Go.RowKit
set_option maxRecDepth 100000

/-- A list with another's first n elements. -/
def kK (A W : List Int) (n : Nat) : List Int := A.take n ++ W.drop n
theorem kK_zero (A W : List Int) : kK A W 0 = W := by unfold kK; rw [List.take_zero, List.drop_zero, List.nil_append]
theorem kK_all {A W : List Int} {n : Nat} (h1 : A.length = n) (h2 : W.length = n) : kK A W n = A := by
  unfold kK
  rw [List.take_of_length_le (by omega), List.drop_of_length_le (by omega), List.append_nil]
theorem kK_len {A W : List Int} {n : Nat} (h1 : n ≤ A.length) (h2 : n ≤ W.length) : (kK A W n).length = W.length := by
  unfold kK
  rw [List.length_append, List.length_take, List.length_drop]
  omega
theorem kK_get {A W : List Int} {n : Nat} (h1 : n ≤ A.length) {x : Int} (h2 : W[n]? = some x) : (kK A W n)[n]? = some x := by
  unfold kK
  rw [List.getElem?_append_right (by rw [List.length_take]; omega), List.length_take, List.getElem?_drop, ← h2]
  congr 1
  omega
theorem kK_step {A W : List Int} {n : Nat} {v : Int} (h1 : A[n]? = some v) (h2 : n < W.length) : (kK A W n).set n v = kK A W (n + 1) := by
  have hA := (List.getElem?_eq_some_iff.1 h1).1
  unfold kK
  rw [take_snoc h1, List.drop_eq_getElem_cons h2, List.append_assoc, List.singleton_append]
  rw [List.set_append_right _ _ (by rw [List.length_take]; omega)]
  congr 1
  rw [List.length_take, show n - min n A.length = 0 by omega]
  rfl
theorem kK_same {A W : List Int} {n : Nat} {v : Int} (h1 : A[n]? = some v) (h2 : W[n]? = some v) : kK A W (n + 1) = kK A W n := by
  have hA := (List.getElem?_eq_some_iff.1 h1).1
  have hW := (List.getElem?_eq_some_iff.1 h2).1
  rw [← kK_step h1 hW]
  apply List.ext_getElem?
  intro j
  rw [List.getElem?_set]
  split
  · subst_vars
    rw [if_pos (by rw [kK_len (by omega) (by omega)]; exact hW), kK_get (by omega) h2]
  · rfl

/-- The sets of a normal table: 0 in place of all levels. -/
def nwL (S : List (ByteArray × Int)) (W : List Int) : List Int := List.zipWith (fun q x => if x = flZ q.2 then 0 else x) S W
section
variable {S : List (ByteArray × Int)} {W : List Int} {i : Nat} {nm : ByteArray} {lv x : Int}
theorem nwL_len (h : W.length = S.length) : (nwL S W).length = S.length := by unfold nwL; rw [List.length_zipWith, h, Nat.min_self]
theorem nwL_len2 (h : W.length = S.length) : (nwL S W).length = W.length := by rw [nwL_len h, h]
theorem nwL_yes (h1 : S[i]? = some (nm, lv)) (h2 : W[i]? = some x) (h : x = flZ lv) : (nwL S W)[i]? = some 0 := by
  unfold nwL
  rw [List.getElem?_zipWith, h1, h2]
  exact congrArg some (if_pos h)
theorem nwL_no (h1 : S[i]? = some (nm, lv)) (h2 : W[i]? = some x) (h : x ≠ flZ lv) : (nwL S W)[i]? = some x := by
  unfold nwL
  rw [List.getElem?_zipWith, h1, h2]
  exact congrArg some (if_neg h)
theorem nwL_i64 (h : ∀ n ∈ W, IsI64 n) : ∀ n ∈ nwL S W, IsI64 n := by
  intro n hn
  obtain ⟨j, hj, rfl⟩ := List.getElem_of_mem hn
  have hj' := hj
  unfold nwL at hj'
  rw [List.length_zipWith] at hj'
  have e1 : S[j]? = some (S[j].1, S[j].2) := List.getElem?_eq_getElem (by omega)
  have e2 : W[j]? = some W[j] := List.getElem?_eq_getElem (by omega)
  have e3 : (nwL S W)[j]? = some (nwL S W)[j] := List.getElem?_eq_getElem hj
  by_cases k : W[j] = flZ S[j].2
  · have := Option.some.inj (e3.symm.trans (nwL_yes e1 e2 k))
    rw [this]
    unfold IsI64
    omega
  · have := Option.some.inj (e3.symm.trans (nwL_no e1 e2 k))
    rw [this]
    exact h _ (List.getElem_mem _)
end
/-- What NormalTable answers. -/
def ntR (P : List Int) (S : List (ByteArray × Int)) (l : Int) (F W : List Int) (m : Int) : Int × List Int × List Int × Int := if tgB P S l F W m then (l, F, nwL S W, m) else (0, [], [], 0)
theorem ntR_yes {P : List Int} {S : List (ByteArray × Int)} {l : Int} {F W : List Int} {m : Int} (h : tgB P S l F W m = true) : ntR P S l F W m = (l, F, nwL S W, m) := by unfold ntR; rw [h]; rfl
theorem ntR_no {P : List Int} {S : List (ByteArray × Int)} {l : Int} {F W : List Int} {m : Int} (h : tgB P S l F W m = false) : ntR P S l F W m = (0, [], [], 0) := by unfold ntR; rw [h]; rfl
/-- A table's two lists that are owned: apart from each other, whichever lies first. -/
def OwY (w : World) (lo hi : Nat) (u v : Value) (F W : List Int) : Prop := ∃ a b c d, lo ≤ a ∧ b ≤ hi ∧ lo ≤ c ∧ d ≤ hi ∧ (b ≤ c ∨ d ≤ a) ∧ OwR w a b 3 1 u F.length (iC F) ∧ OwR w c d 3 1 v W.length (iC W)
section
variable {w w' : World} {lo hi : Nat} {u v : Value} {F W : List Int}
theorem OwY.below (h : OwY w lo hi u v F W) (hb : Below w.heap.size w w') : OwY w' lo hi u v F W := by
  obtain ⟨a, b, c, d, h1, h2, h3, h4, h5, p, q⟩ := h
  exact ⟨a, b, c, d, h1, h2, h3, h4, h5, p.below hb, q.below hb⟩
theorem OwY.off {lo2 hi2 : Nat} (h : OwY w lo hi u v F W) (hg : Off lo2 hi2 w w') (hne : hi ≤ lo2 ∨ hi2 ≤ lo) : OwY w' lo hi u v F W := by
  obtain ⟨a, b, c, d, h1, h2, h3, h4, h5, p, q⟩ := h
  exact ⟨a, b, c, d, h1, h2, h3, h4, h5, p.off hg (by omega), q.off hg (by omega)⟩
theorem OwY.keep {r : Option Nat} (h : OwY w lo hi u v F W) (hg : w.grownBy w' r) (hr : ∀ k, r = some k → k < lo ∨ hi ≤ k) : OwY w' lo hi u v F W := by
  obtain ⟨a, b, c, d, h1, h2, h3, h4, h5, p, q⟩ := h
  exact ⟨a, b, c, d, h1, h2, h3, h4, h5, p.keep hg (fun k hk => by have := hr k hk; omega), q.keep hg (fun k hk => by have := hr k hk; omega)⟩
theorem OwY.more {lo' hi' : Nat} (h : OwY w lo hi u v F W) (h1' : lo' ≤ lo) (h2' : hi ≤ hi') : OwY w lo' hi' u v F W := by
  obtain ⟨a, b, c, d, h1, h2, h3, h4, h5, p, q⟩ := h
  exact ⟨a, b, c, d, by omega, by omega, by omega, by omega, h5, p, q⟩
theorem OwY.of (h : OwT w lo hi u v F W) : OwY w lo hi u v F W := by
  obtain ⟨mid, h1, h2, a, b⟩ := h
  exact ⟨lo, mid, mid, hi, Nat.le_refl _, h2, h1, Nat.le_refl _, Or.inl (Nat.le_refl _), a, b⟩
theorem OwY.form (h : OwY w lo hi u v F W) : ∃ x c z d, u = .slice x F.length c ∧ v = .slice z W.length d := by
  obtain ⟨a, b, c, d, -, -, -, -, -, p, q⟩ := h
  obtain ⟨x, c, rfl, -⟩ := p.form
  obtain ⟨z, d, rfl, -⟩ := q.form
  exact ⟨x, c, z, d, rfl, rfl⟩
end
theorem OwY.rd {w : World} {lo hi : Nat} {x z : Option Addr} {c d : Nat} {F W : List Int} (h : OwY w lo hi (.slice x F.length c) (.slice z W.length d) F W) : Rd w x (iC F) ∧ Rd w z (iC W) := by
  obtain ⟨_, _, _, _, -, -, -, -, -, p, q⟩ := h
  exact ⟨p.rd, q.rd⟩
theorem TIn.of_owY {w : World} {lo hi : Nat} {x z : Option Addr} {c d : Nat} {F W : List Int} (h : OwY w lo hi (.slice x F.length c) (.slice z W.length d) F W) (hF : F.length ≤ 1048576) (hW : W.length ≤ 1048576) (hnF : ∀ n ∈ F, IsI64 n) (hnW : ∀ n ∈ W, IsI64 n) : TIn w x z F W := ⟨⟨hF, hnF, h.rd.1⟩, ⟨hW, hnW, h.rd.2⟩⟩
theorem grown_setN (W : World) (p : Addr) (v : Value) : W.grownBy (W.setCell p v) (some p.block) :=
  ⟨rfl, rfl, rfl, by simp [World.setCell], fun k _ hk => Below.heap_setCell _ _ _ k (fun e => hk (by rw [e]))⟩
theorem OwR.set {w : World} {lo hi size n : Nat} {e : TypeId} {u : Value} {xs : List Value} (h : OwR w lo hi e size u n xs) (p : Addr) (v : Value) (hp : p.block < lo ∨ hi ≤ p.block) : OwR (w.setCell p v) lo hi e size u n xs :=
  h.keep (grown_setN w p v) (fun k hk => by obtain rfl := Option.some.inj hk; exact hp)
/-- A table, handed back. -/
def RetT (l : Int) (F W : List Int) (m : Int) (w : World) (e : Ending) (w' : World) : Prop :=
  ∃ x c z d, e = .returned (.agg #[.int .i64 l, .slice x F.length c, .slice z W.length d, .int .i64 m]) ∧ OwY w' w.heap.size w'.heap.size (.slice x F.length c) (.slice z W.length d) F W ∧ Below w.heap.size w w'
/-- A table and a Bool, handed back. -/
def RetTB (R : Int × List Int × List Int × Int) (b : Bool) (w : World) (e : Ending) (w' : World) : Prop :=
  ∃ x c z d, e = .returned (.tuple #[.agg #[.int .i64 R.1, .slice x R.2.1.length c, .slice z R.2.2.1.length d, .int .i64 R.2.2.2], .bool b]) ∧ OwY w' w.heap.size w'.heap.size (.slice x R.2.1.length c) (.slice z R.2.2.1.length d) R.2.1 R.2.2.1 ∧ Below w.heap.size w w'
theorem retTB_no {b : Bool} {w w' : World} (k : b = false) (hB : Below w.heap.size w w') : RetTB (0, [], [], 0) b w (.returned (.tuple #[.agg #[.int .i64 0, .slice none 0 0, .slice none 0 0, .int .i64 0], .bool false])) w' := by
  subst k
  exact ⟨none, 0, none, 0, rfl, ⟨w.heap.size, w.heap.size, w.heap.size, w.heap.size, Nat.le_refl _, hB.size, Nat.le_refl _, hB.size, Or.inl (Nat.le_refl _), ⟨World.ownsRow_nil _ _ _ _, fun k hk => by cases hk⟩, ⟨World.ownsRow_nil _ _ _ _, fun k hk => by cases hk⟩⟩, hB⟩
end Go.Proofs.Ytpmbenedeakieaa

namespace Go.Proofs.Ytpmbenedeakieaa
open Go.RowKit
set_option maxRecDepth 100000

theorem TQ.set {w : World} {g : Nat} {l : Int} {x : Option Addr} {n c : Nat} {z : Option Addr} {k d : Nat} {m : Int} (h : TQ w g l x n c z k d m) (p : Addr) (v : Value) (hp : g ≠ p.block) : TQ (w.setCell p v) g l x n c z k d m := h.grown (grown_setN w p v) (fun e => hp (Option.some.inj e))
theorem ret_t {a b : Value} (h : a = b) : Ending.returned a = .returned b := by rw [h]
set_option maxHeartbeats 4000000 in
theorem nOwn_any (l : Int) (x z : Option Addr) (c d : Nat) (F W : List Int) (m : Int) (w : World) (hmF : F.length ≤ 1048576) (hmW : W.length ≤ 1048576) (hcF : F.length ≤ c) (hnF : x = none → c = 0) (hcW : W.length ≤ d) (hnW : z = none → d = 0) (hF : Rd w x (iC F)) (hW : Rd w z (iC W)) :
    Calls Try.prog 94 #[.agg #[.int .i64 l, .slice x F.length c, .slice z W.length d, .int .i64 m]] w (RetT l F W m w) := by
  have hFh := Lib.hid hF
  have hWh := Lib.hid hW
  clear hF hW
  have q0 := TQ.new w l x F.length c z W.length d m 37
  obtain ⟨W2, hW2⟩ : ∃ W2, W2 = (w.alloc (.cells #[.int .i64 l, .slice x F.length c, .slice z W.length d, .int .i64 m] 37)).alloc (.cells #[.int .i64 0, .slice none 0 0, .slice none 0 0, .int .i64 0] 37) := ⟨_, rfl⟩
  have q2 : TQ W2 w.heap.size l x F.length c z W.length d m := by rw [hW2]; exact q0.below (by repeat (first | exact Below.refl _ _ | assumption | refine Below.drew ?_ | refine below_drewN ?_ _ | refine Below.alloc' ?_ _ | (refine Below.setCell ?_ (by first | omega | (simp; done) | (simp; omega) | exact Below.size (by assumption) | exact Nat.le_trans (Below.size (by assumption)) (by simp)) _) | (refine Below.via' ?_ (by assumption)) | (refine Below.alloc ?_ (by first | omega | (simp; done) | (simp; omega) | exact Below.size (by assumption) | exact Nat.le_trans (Below.size (by assumption)) (by simp)) _) | (refine Below.via ?_ (by assumption) (by first | omega | (simp; done) | (simp; omega) | exact Below.size (by assumption) | exact Nat.le_trans (Below.size (by assumption)) (by simp)))))
  have B2 : Below w.heap.size w W2 := by rw [hW2]; exact (by repeat (first | exact Below.refl _ _ | assumption | refine Below.drew ?_ | refine below_drewN ?_ _ | refine Below.alloc' ?_ _ | (refine Below.setCell ?_ (by first | omega | (simp; done) | (simp; omega) | exact Below.size (by assumption) | exact Nat.le_trans (Below.size (by assumption)) (by simp)) _) | (refine Below.via' ?_ (by assumption)) | (refine Below.alloc ?_ (by first | omega | (simp; done) | (simp; omega) | exact Below.size (by assumption) | exact Nat.le_trans (Below.size (by assumption)) (by simp)) _) | (refine Below.via ?_ (by assumption) (by first | omega | (simp; done) | (simp; omega) | exact Below.size (by assumption) | exact Nat.le_trans (Below.size (by assumption)) (by simp)))))
  have zz := Wb.new (w.alloc (.cells #[.int .i64 l, .slice x F.length c, .slice z W.length d, .int .i64 m] 37)) 37 #[.int .i64 0, .slice none 0 0, .slice none 0 0, .int .i64 0]
  rw [← hW2, World.size_alloc] at zz
  have hs2 : W2.heap.size = w.heap.size + 1 + 1 := by rw [hW2]; simp
  replace zz := Lib.hid zz
  replace hW2 := Lib.hid hW2
  replace q2 := Lib.hid q2
  clear q0
  go_enter Try.func94, Try.ntmps94
  go_wp2_with fail
  rw [← hW2.out]
  refine wp_region_held_drew (S := fun X => Below w.heap.size w X ∧ TQ X w.heap.size l x F.length c z W.length d m) (by kernel_rfl) ⟨Below.drew B2, q2.out.below (Below.drew (Below.refl _ _))⟩ (fun hH => ?_)
  refine wpAnyH_take (i := 0) (v := ?_) rfl (by kernel_rfl) (by kernel_rfl) (by kernel_rfl) (fun _ _ _ h => h) (Or.inl ⟨by rfl, ?_⟩) (by assumption) ?_; rotate_left; · (intro wz hz; (have f0 := hz.2.1; have f1 := hz.2.2.1; have f2 := hz.2.2.2.1; have f3 := hz.2.2.2.2.1); clear hz; go_simp; try with_reducible rfl); (try simp only [Act.put, List.getElem_toArray, List.getElem_cons_succ, List.getElem_cons_zero, List.setIfInBounds_toArray, List.set_cons_zero, List.set_cons_succ])
  refine wpAnyH_take (i := 1) (v := ?_) rfl (by kernel_rfl) (by kernel_rfl) (by kernel_rfl) (fun _ _ _ h => h) (Or.inl ⟨by rfl, ?_⟩) (by assumption) ?_; rotate_left; · (intro wz hz; (have f0 := hz.2.1; have f1 := hz.2.2.1; have f2 := hz.2.2.2.1; have f3 := hz.2.2.2.2.1); clear hz; go_simp; try with_reducible rfl); (try simp only [Act.put, List.getElem_toArray, List.getElem_cons_succ, List.getElem_cons_zero, List.setIfInBounds_toArray, List.set_cons_zero, List.set_cons_succ])
  refine wpAnyH_take (i := 2) (v := ?_) rfl (by kernel_rfl) (by kernel_rfl) (by kernel_rfl) (fun _ _ _ h => h) (Or.inl ⟨by rfl, ?_⟩) (by assumption) ?_; rotate_left; · (intro wz hz; (have f0 := hz.2.1; have f1 := hz.2.2.1; have f2 := hz.2.2.2.1; have f3 := hz.2.2.2.2.1); clear hz; go_simp; try with_reducible rfl); (try simp only [Act.put, List.getElem_toArray, List.getElem_cons_succ, List.getElem_cons_zero, List.setIfInBounds_toArray, List.set_cons_zero, List.set_cons_succ])
  refine wpAnyH_take (i := 3) (v := ?_) rfl (by kernel_rfl) (by kernel_rfl) (by kernel_rfl) (fun _ _ _ h => h) (Or.inl ⟨by rfl, ?_⟩) (by assumption) ?_; rotate_left; · (intro wz hz; (have f0 := hz.2.1; have f1 := hz.2.2.1; have f2 := hz.2.2.2.1; have f3 := hz.2.2.2.2.1); clear hz; go_simp; try with_reducible rfl); (try simp only [Act.put, List.getElem_toArray, List.getElem_cons_succ, List.getElem_cons_zero, List.setIfInBounds_toArray, List.set_cons_zero, List.set_cons_succ])
  refine wpAnyH_take (i := 5) (v := ?_) rfl (by kernel_rfl) (by kernel_rfl) (by kernel_rfl) (fun _ _ _ h => h) (Or.inl ⟨by rfl, ?_⟩) (by assumption) ?_; rotate_left; · (intro wz hz; (have f0 := hz.2.1; have f1 := hz.2.2.1; have f2 := hz.2.2.2.1; have f3 := hz.2.2.2.2.1); clear hz; go_simp; try with_reducible rfl); (try simp only [Act.put, List.getElem_toArray, List.getElem_cons_succ, List.getElem_cons_zero, List.setIfInBounds_toArray, List.set_cons_zero, List.set_cons_succ])
  refine wpAnyH_take (i := 6) (v := ?_) rfl (by kernel_rfl) (by kernel_rfl) (by kernel_rfl) (fun _ _ _ h => h) (Or.inl ⟨by rfl, ?_⟩) (by assumption) ?_; rotate_left; · (intro wz hz; (have f0 := hz.2.1; have f1 := hz.2.2.1; have f2 := hz.2.2.2.1; have f3 := hz.2.2.2.2.1); clear hz; go_simp; try with_reducible rfl); (try simp only [Act.put, List.getElem_toArray, List.getElem_cons_succ, List.getElem_cons_zero, List.setIfInBounds_toArray, List.set_cons_zero, List.set_cons_succ])
  refine wpAnyH_take (i := 8) (v := ?_) rfl (by kernel_rfl) (by kernel_rfl) (by kernel_rfl) (fun _ _ _ h => h) (Or.inl ⟨by rfl, ?_⟩) (by assumption) ?_; rotate_left; · (intro wz hz; (have f0 := hz.2.1; have f1 := hz.2.2.1; have f2 := hz.2.2.2.1; have f3 := hz.2.2.2.2.1); clear hz; go_simp; try with_reducible rfl); (try simp only [Act.put, List.getElem_toArray, List.getElem_cons_succ, List.getElem_cons_zero, List.setIfInBounds_toArray, List.set_cons_zero, List.set_cons_succ])
  refine wpAnyH_take (i := 9) (v := ?_) rfl (by kernel_rfl) (by kernel_rfl) (by kernel_rfl) (fun _ _ _ h => h) (Or.inl ⟨by rfl, ?_⟩) (by assumption) ?_; rotate_left; · (intro wz hz; (have f0 := hz.2.1; have f1 := hz.2.2.1; have f2 := hz.2.2.2.1; have f3 := hz.2.2.2.2.1); clear hz; go_simp; try with_reducible rfl); (try simp only [Act.put, List.getElem_toArray, List.getElem_cons_succ, List.getElem_cons_zero, List.setIfInBounds_toArray, List.set_cons_zero, List.set_cons_succ])
  refine wpAnyH_ready (rs := [4]) (by kernel_rfl) (by simp) (AllReadyH.cons rfl (fun K hK => ?_) AllReadyH.nil); go_simp
  go_simp; refine (l1Own_any x c F _ hmF hcF hnF (hFh.out.below (by exact (by repeat (first | exact Below.refl _ _ | assumption | refine Below.drew ?_ | refine below_drewN ?_ _ | refine Below.alloc' ?_ _ | (refine Below.setCell ?_ (by first | omega | (simp; done) | (simp; omega) | exact Below.size (by assumption) | exact Nat.le_trans (Below.size (by assumption)) (by simp)) _) | (refine Below.via' ?_ (by assumption)) | (refine Below.alloc ?_ (by first | omega | (simp; done) | (simp; omega) | exact Below.size (by assumption) | exact Nat.le_trans (Below.size (by assumption)) (by simp)) _) | (refine Below.via ?_ (by assumption) (by first | omega | (simp; done) | (simp; omega) | exact Below.size (by assumption) | exact Nat.le_trans (Below.size (by assumption)) (by simp)))))))).mono ?_; rintro e wF ⟨uF, rfl, hoF, hbF⟩; (have hOF := Lib.hid (OwR.of hoF)); (obtain ⟨xF, cF, rfl, -, -⟩ := hOF.out.form); clear hoF; refine hK.out _ _ ⟨Below.via' hH.1 hbF, hH.2.below hbF⟩ (fun hHF => ?_); clear hK K; (try simp only [Act.put, List.getElem_toArray, List.getElem_cons_succ, List.getElem_cons_zero, List.setIfInBounds_toArray, List.set_cons_zero, List.set_cons_succ])
  refine wpAnyH_ready (rs := [7]) (by kernel_rfl) (by simp) (AllReadyH.cons rfl (fun K hK => ?_) AllReadyH.nil); go_simp
  go_simp; refine (l1Own_any z d W _ hmW hcW hnW (hWh.out.below (by exact (by repeat (first | exact Below.refl _ _ | assumption | refine Below.drew ?_ | refine below_drewN ?_ _ | refine Below.alloc' ?_ _ | (refine Below.setCell ?_ (by first | omega | (simp; done) | (simp; omega) | exact Below.size (by assumption) | exact Nat.le_trans (Below.size (by assumption)) (by simp)) _) | (refine Below.via' ?_ (by assumption)) | (refine Below.alloc ?_ (by first | omega | (simp; done) | (simp; omega) | exact Below.size (by assumption) | exact Nat.le_trans (Below.size (by assumption)) (by simp)) _) | (refine Below.via ?_ (by assumption) (by first | omega | (simp; done) | (simp; omega) | exact Below.size (by assumption) | exact Nat.le_trans (Below.size (by assumption)) (by simp)))))))).mono ?_; rintro e wW ⟨uW, rfl, hoW, hbW⟩; (have hOW := Lib.hid (OwR.of hoW)); (obtain ⟨xW, cW, rfl, -, -⟩ := hOW.out.form); clear hoW; refine hK.out _ _ ⟨Below.via' hHF.1 hbW, hHF.2.below hbW⟩ (fun hHW => ?_); clear hK K; (try simp only [Act.put, List.getElem_toArray, List.getElem_cons_succ, List.getElem_cons_zero, List.setIfInBounds_toArray, List.set_cons_zero, List.set_cons_succ])
  refine wpAnyH_take (i := 10) (v := ?_) rfl (by kernel_rfl) (by kernel_rfl) (by kernel_rfl) (fun _ _ _ h => h) (Or.inl ⟨by rfl, ?_⟩) (by assumption) ?_; rotate_left; · (intro wz hz; (skip); clear hz; go_simp; try with_reducible rfl); (try simp only [Act.put, List.getElem_toArray, List.getElem_cons_succ, List.getElem_cons_zero, List.setIfInBounds_toArray, List.set_cons_zero, List.set_cons_succ])
  have zW := Lib.hid (((show Wb W2.drew (w.heap.size + 1) 37 #[.int .i64 0, .slice none 0 0, .slice none 0 0, .int .i64 0] from zz.out).kept hbF).kept hbW)
  have e1 := hbF.size
  have e2 := hbW.size
  have e0 : W2.drew.heap.size = W2.heap.size := rfl
  have ya := zW.out.read 0; have yb := zW.out.read 1; have yc := zW.out.read 2; have yd := zW.out.read 3; have ye := zW.out.free 0; have yf := zW.out.free 1; have yg := zW.out.free 2; have yh := zW.out.free 3
  have yin := zW.out.inside
  refine wpAnyH_ready (rs := [11]) (by kernel_rfl) (by simp) (AllReadyH.cons rfl (fun K hK => ?_) AllReadyH.nil); go_simp
  have hHW1 := hHW.1
  refine hK.out _ _ ⟨(by repeat (first | exact Below.refl _ _ | assumption | refine Below.drew ?_ | refine below_drewN ?_ _ | refine Below.alloc' ?_ _ | (refine Below.setCell ?_ (by first | omega | (simp; done) | (simp; omega) | exact Below.size (by assumption) | exact Nat.le_trans (Below.size (by assumption)) (by simp)) _) | (refine Below.via' ?_ (by assumption)) | (refine Below.alloc ?_ (by first | omega | (simp; done) | (simp; omega) | exact Below.size (by assumption) | exact Nat.le_trans (Below.size (by assumption)) (by simp)) _) | (refine Below.via ?_ (by assumption) (by first | omega | (simp; done) | (simp; omega) | exact Below.size (by assumption) | exact Nat.le_trans (Below.size (by assumption)) (by simp))))), (((hHW.2.set _ _ (by simp)).set _ _ (by simp)).set _ _ (by simp)).set _ _ (by simp)⟩ (fun hE => ?_)
  clear hK K
  (try simp only [Act.put, List.getElem_toArray, List.getElem_cons_succ, List.getElem_cons_zero, List.setIfInBounds_toArray, List.set_cons_zero, List.set_cons_succ])
  refine wpAnyH_done (by kernel_rfl) ?_ _
  go_wp2_with fail
  refine bodyPost_ret (v := .agg #[.int .i64 l, .slice xF F.length cF, .slice xW W.length cW, .int .i64 m]) (by simp [results, Try.results94, go_sem, *]) rfl ⟨_, _, _, _, rfl, ⟨W2.heap.size, wF.heap.size, wF.heap.size, wW.heap.size, by omega, by simp; omega, by omega, by simp, Or.inl (Nat.le_refl _), ?_, ?_⟩, hE.1⟩
  · repeat (refine OwR.set ?_ _ _ (Or.inl (by simp; omega)))
    exact hOF.out.below hbW
  · repeat (refine OwR.set ?_ _ _ (Or.inl (by simp; omega)))
    exact hOW.out
set_option maxHeartbeats 32000000 in
theorem copyTable_any (l : Int) (x z : Option Addr) (c d : Nat) (F W : List Int) (m : Int) (w : World) (hmF : F.length ≤ 1048576) (hmW : W.length ≤ 1048576) (hcF : F.length ≤ c) (hnF : x = none → c = 0) (hcW : W.length ≤ d) (hnW : z = none → d = 0) (hF : Rd w x (iC F)) (hW : Rd w z (iC W)) :
    Calls Try.prog 99 #[.agg #[.int .i64 l, .slice x F.length c, .slice z W.length d, .int .i64 m]] w (RetT l F W m w) := by
  have hFh := Lib.hid hF
  have hWh := Lib.hid hW
  clear hF hW
  have q0 := Wb.new w 37 #[.int .i64 l, .slice x F.length c, .slice z W.length d, .int .i64 m]
  obtain ⟨W2, hW2⟩ : ∃ W2, W2 = (w.alloc (.cells #[.int .i64 l, .slice x F.length c, .slice z W.length d, .int .i64 m] 37)).alloc (.cells #[.int .i64 0, .slice none 0 0, .slice none 0 0, .int .i64 0] 37) := ⟨_, rfl⟩
  replace q0 := q0.kept (show Below (w.alloc (.cells #[.int .i64 l, .slice x F.length c, .slice z W.length d, .int .i64 m] 37)).heap.size (w.alloc (.cells #[.int .i64 l, .slice x F.length c, .slice z W.length d, .int .i64 m] 37)) W2 from by rw [hW2]; exact (by repeat (first | exact Below.refl _ _ | assumption | refine Below.drew ?_ | refine below_drewN ?_ _ | refine Below.alloc' ?_ _ | (refine Below.setCell ?_ (by first | omega | (simp; done) | (simp; omega) | exact Below.size (by assumption) | exact Nat.le_trans (Below.size (by assumption)) (by simp)) _) | (refine Below.via' ?_ (by assumption)) | (refine Below.alloc ?_ (by first | omega | (simp; done) | (simp; omega) | exact Below.size (by assumption) | exact Nat.le_trans (Below.size (by assumption)) (by simp)) _) | (refine Below.via ?_ (by assumption) (by first | omega | (simp; done) | (simp; omega) | exact Below.size (by assumption) | exact Nat.le_trans (Below.size (by assumption)) (by simp))))))
  have B2 : Below w.heap.size w W2 := by rw [hW2]; exact (by repeat (first | exact Below.refl _ _ | assumption | refine Below.drew ?_ | refine below_drewN ?_ _ | refine Below.alloc' ?_ _ | (refine Below.setCell ?_ (by first | omega | (simp; done) | (simp; omega) | exact Below.size (by assumption) | exact Nat.le_trans (Below.size (by assumption)) (by simp)) _) | (refine Below.via' ?_ (by assumption)) | (refine Below.alloc ?_ (by first | omega | (simp; done) | (simp; omega) | exact Below.size (by assumption) | exact Nat.le_trans (Below.size (by assumption)) (by simp)) _) | (refine Below.via ?_ (by assumption) (by first | omega | (simp; done) | (simp; omega) | exact Below.size (by assumption) | exact Nat.le_trans (Below.size (by assumption)) (by simp)))))
  have zz := Wb.new (w.alloc (.cells #[.int .i64 l, .slice x F.length c, .slice z W.length d, .int .i64 m] 37)) 37 #[.int .i64 0, .slice none 0 0, .slice none 0 0, .int .i64 0]
  rw [← hW2, World.size_alloc] at zz
  have hs2 : W2.heap.size = w.heap.size + 1 + 1 := by rw [hW2]; simp
  replace zz := Lib.hid zz
  replace hW2 := Lib.hid hW2
  replace q0 := Lib.hid q0
  have pa := q0.out.read 0; have pb := q0.out.read 1; have pc := q0.out.read 2; have pd := q0.out.read 3; have pe := q0.out.free 0; have pf := q0.out.free 1; have pg := q0.out.free 2; have ph := q0.out.free 3
  clear pa pb pc pd pe pf pg ph
  have q1 := Lib.hid (show Wb W2.drew w.heap.size 37 #[.int .i64 l, .slice x F.length c, .slice z W.length d, .int .i64 m] from q0.out)
  have z1 := Lib.hid (show Wb W2.drew (w.heap.size + 1) 37 #[.int .i64 0, .slice none 0 0, .slice none 0 0, .int .i64 0] from zz.out)
  have p1 := q1.out.read 1
  have p2 := q1.out.read 2
  have e0 : W2.drew.heap.size = W2.heap.size := rfl
  clear q0 zz
  go_enter Try.func99, Try.ntmps99
  go_wp2_with fail
  rw [← hW2.out]
  refine wp_region_held_drew (S := fun X => Below w.heap.size w X) (by kernel_rfl) (Below.drew B2) (fun hH => ?_)
  refine wpAnyH_take (i := 0) (v := ?_) rfl (by kernel_rfl) (by kernel_rfl) (by kernel_rfl) (fun _ _ _ h => h) (Or.inl ⟨by rfl, ?_⟩) (by assumption) ?_; rotate_left; · (intro wz hz; (skip); clear hz; go_simp; try with_reducible rfl); (try simp only [Act.put, List.getElem_toArray, List.getElem_cons_succ, List.getElem_cons_zero, List.setIfInBounds_toArray, List.set_cons_zero, List.set_cons_succ])
  refine wpAnyH_take (i := 3) (v := ?_) rfl (by kernel_rfl) (by kernel_rfl) (by kernel_rfl) (fun _ _ _ h => h) (Or.inl ⟨by rfl, ?_⟩) (by assumption) ?_; rotate_left; · (intro wz hz; (skip); clear hz; go_simp; try with_reducible rfl); (try simp only [Act.put, List.getElem_toArray, List.getElem_cons_succ, List.getElem_cons_zero, List.setIfInBounds_toArray, List.set_cons_zero, List.set_cons_succ])
  refine wpAnyH_ready (rs := [1, 4]) (by kernel_rfl) (by simp) (AllReadyH.cons rfl (fun K hK => ?_) (AllReadyH.cons rfl (fun K hK => ?_) AllReadyH.nil))
  go_simp; refine hK.out _ _ hH (fun _ => ?_); clear hK K; (try simp only [Act.put, List.getElem_toArray, List.getElem_cons_succ, List.getElem_cons_zero, List.setIfInBounds_toArray, List.set_cons_zero, List.set_cons_succ])
  refine wpAnyH_ready (rs := [2, 4]) (by kernel_rfl) (by simp) (AllReadyH.cons rfl (fun K hK => ?_) (AllReadyH.cons rfl (fun K hK => ?_) AllReadyH.nil))
  go_simp; refine (cloneInt_any x c F _ hmF hcF hnF (hFh.out.below (by exact (by repeat (first | exact Below.refl _ _ | assumption | refine Below.drew ?_ | refine below_drewN ?_ _ | refine Below.alloc' ?_ _ | (refine Below.setCell ?_ (by first | omega | (simp; done) | (simp; omega) | exact Below.size (by assumption) | exact Nat.le_trans (Below.size (by assumption)) (by simp)) _) | (refine Below.via' ?_ (by assumption)) | (refine Below.alloc ?_ (by first | omega | (simp; done) | (simp; omega) | exact Below.size (by assumption) | exact Nat.le_trans (Below.size (by assumption)) (by simp)) _) | (refine Below.via ?_ (by assumption) (by first | omega | (simp; done) | (simp; omega) | exact Below.size (by assumption) | exact Nat.le_trans (Below.size (by assumption)) (by simp)))))))).mono ?_; rintro e wF ⟨uF, rfl, hoF, hbF⟩; (have hOF := Lib.hid (OwR.of hoF)); (obtain ⟨xF, cF, rfl, -, -⟩ := hOF.out.form); clear hoF p1 p2; (have qF := Lib.hid (q1.out.kept hbF)); (have p1 := qF.out.read 1); (have p2 := qF.out.read 2); refine hK.out _ _ (Below.via' hH hbF) (fun hHF => ?_); clear hK K; (try simp only [Act.put, List.getElem_toArray, List.getElem_cons_succ, List.getElem_cons_zero, List.setIfInBounds_toArray, List.set_cons_zero, List.set_cons_succ])
  refine wpAnyH_ready (rs := [4]) (by kernel_rfl) (by simp) (AllReadyH.cons rfl (fun K hK => ?_) AllReadyH.nil); go_simp
  go_simp; refine hK.out _ _ hHF (fun _ => ?_); clear hK K; (try simp only [Act.put, List.getElem_toArray, List.getElem_cons_succ, List.getElem_cons_zero, List.setIfInBounds_toArray, List.set_cons_zero, List.set_cons_succ])
  refine wpAnyH_take (i := 6) (v := ?_) rfl (by kernel_rfl) (by kernel_rfl) (by kernel_rfl) (fun _ _ _ h => h) (Or.inl ⟨by rfl, ?_⟩) (by assumption) ?_; rotate_left; · (intro wz hz; (skip); clear hz; go_simp; try with_reducible rfl); (try simp only [Act.put, List.getElem_toArray, List.getElem_cons_succ, List.getElem_cons_zero, List.setIfInBounds_toArray, List.set_cons_zero, List.set_cons_succ])
  refine wpAnyH_ready (rs := [5]) (by kernel_rfl) (by simp) (AllReadyH.cons rfl (fun K hK => ?_) AllReadyH.nil); go_simp
  go_simp; refine (cloneInt_any z d W _ hmW hcW hnW (hWh.out.below (by exact (by repeat (first | exact Below.refl _ _ | assumption | refine Below.drew ?_ | refine below_drewN ?_ _ | refine Below.alloc' ?_ _ | (refine Below.setCell ?_ (by first | omega | (simp; done) | (simp; omega) | exact Below.size (by assumption) | exact Nat.le_trans (Below.size (by assumption)) (by simp)) _) | (refine Below.via' ?_ (by assumption)) | (refine Below.alloc ?_ (by first | omega | (simp; done) | (simp; omega) | exact Below.size (by assumption) | exact Nat.le_trans (Below.size (by assumption)) (by simp)) _) | (refine Below.via ?_ (by assumption) (by first | omega | (simp; done) | (simp; omega) | exact Below.size (by assumption) | exact Nat.le_trans (Below.size (by assumption)) (by simp)))))))).mono ?_; rintro e wW ⟨uW, rfl, hoW, hbW⟩; (have hOW := Lib.hid (OwR.of hoW)); (obtain ⟨xW, cW, rfl, -, -⟩ := hOW.out.form); clear hoW p1 p2; refine hK.out _ _ (Below.via' hHF hbW) (fun hHW => ?_); clear hK K; (try simp only [Act.put, List.getElem_toArray, List.getElem_cons_succ, List.getElem_cons_zero, List.setIfInBounds_toArray, List.set_cons_zero, List.set_cons_succ])
  have e1 := hbF.size
  have e2 := hbW.size
  have zW := Lib.hid ((z1.out.kept hbF).kept hbW)
  have qW := Lib.hid (qF.out.kept hbW)
  have u1 := qW.out.read 1
  have u2 := qW.out.free 1
  refine wpAnyH_ready (rs := [7]) (by kernel_rfl) (by simp) (AllReadyH.cons rfl (fun K hK => ?_) AllReadyH.nil); go_simp
  have h7 : Below w.heap.size w (wW.setCell ⟨w.heap.size, 1, none⟩ (.slice xF F.length cF)) := (by repeat (first | exact Below.refl _ _ | assumption | refine Below.drew ?_ | refine below_drewN ?_ _ | refine Below.alloc' ?_ _ | (refine Below.setCell ?_ (by first | omega | (simp; done) | (simp; omega) | exact Below.size (by assumption) | exact Nat.le_trans (Below.size (by assumption)) (by simp)) _) | (refine Below.via' ?_ (by assumption)) | (refine Below.alloc ?_ (by first | omega | (simp; done) | (simp; omega) | exact Below.size (by assumption) | exact Nat.le_trans (Below.size (by assumption)) (by simp)) _) | (refine Below.via ?_ (by assumption) (by first | omega | (simp; done) | (simp; omega) | exact Below.size (by assumption) | exact Nat.le_trans (Below.size (by assumption)) (by simp)))))
  refine hK.out _ _ h7 (fun _ => ?_)
  clear hK K u1 u2
  (try simp only [Act.put, List.getElem_toArray, List.getElem_cons_succ, List.getElem_cons_zero, List.setIfInBounds_toArray, List.set_cons_zero, List.set_cons_succ])
  have qX := Lib.hid (show Wb (wW.setCell ⟨w.heap.size, 1, none⟩ (.slice xF F.length cF)) w.heap.size 37 #[.int .i64 l, .slice xF F.length cF, .slice z W.length d, .int .i64 m] from qW.out.put 1 _)
  have u1 := qX.out.read 2
  have u2 := qX.out.free 2
  refine wpAnyH_take (i := 8) (v := ?_) rfl (by kernel_rfl) (by kernel_rfl) (by kernel_rfl) (fun _ _ _ h => h) (Or.inl ⟨by rfl, ?_⟩) (by assumption) ?_; rotate_left; · (intro wz hz; (skip); clear hz; go_simp; try with_reducible rfl); (try simp only [Act.put, List.getElem_toArray, List.getElem_cons_succ, List.getElem_cons_zero, List.setIfInBounds_toArray, List.set_cons_zero, List.set_cons_succ])
  refine wpAnyH_ready (rs := [9]) (by kernel_rfl) (by simp) (AllReadyH.cons rfl (fun K hK => ?_) AllReadyH.nil); go_simp
  have h9 : Below w.heap.size w ((wW.setCell ⟨w.heap.size, 1, none⟩ (.slice xF F.length cF)).setCell ⟨w.heap.size, 2, none⟩ (.slice xW W.length cW)) := (by repeat (first | exact Below.refl _ _ | assumption | refine Below.drew ?_ | refine below_drewN ?_ _ | refine Below.alloc' ?_ _ | (refine Below.setCell ?_ (by first | omega | (simp; done) | (simp; omega) | exact Below.size (by assumption) | exact Nat.le_trans (Below.size (by assumption)) (by simp)) _) | (refine Below.via' ?_ (by assumption)) | (refine Below.alloc ?_ (by first | omega | (simp; done) | (simp; omega) | exact Below.size (by assumption) | exact Nat.le_trans (Below.size (by assumption)) (by simp)) _) | (refine Below.via ?_ (by assumption) (by first | omega | (simp; done) | (simp; omega) | exact Below.size (by assumption) | exact Nat.le_trans (Below.size (by assumption)) (by simp)))))
  refine hK.out _ _ h9 (fun _ => ?_)
  clear hK K u1 u2
  (try simp only [Act.put, List.getElem_toArray, List.getElem_cons_succ, List.getElem_cons_zero, List.setIfInBounds_toArray, List.set_cons_zero, List.set_cons_succ])
  obtain ⟨X, hX⟩ : ∃ X, X = ((wW.setCell ⟨w.heap.size, 1, none⟩ (.slice xF F.length cF)).setCell ⟨w.heap.size, 2, none⟩ (.slice xW W.length cW)) := ⟨_, rfl⟩
  have qY : Wb X w.heap.size 37 #[.int .i64 l, .slice xF F.length cF, .slice xW W.length cW, .int .i64 m] := by rw [hX]; exact qX.out.put 2 _
  have zY : Wb X (w.heap.size + 1) 37 #[.int .i64 0, .slice none 0 0, .slice none 0 0, .int .i64 0] := by rw [hX]; exact ((Below.heap_setCell _ _ _ _ (by simp)).trans ((Below.heap_setCell _ _ _ _ (by simp)).trans zW.out))
  have oF : OwR X W2.heap.size wF.heap.size 3 1 (.slice xF F.length cF) F.length (iC F) := by rw [hX]; exact ((hOF.out.below hbW).set _ _ (Or.inl (by show w.heap.size < W2.heap.size; omega))).set _ _ (Or.inl (by show w.heap.size < W2.heap.size; omega))
  have oW : OwR X wF.heap.size wW.heap.size 3 1 (.slice xW W.length cW) W.length (iC W) := by rw [hX]; exact (hOW.out.set _ _ (Or.inl (by show w.heap.size < wF.heap.size; omega))).set _ _ (Or.inl (by show w.heap.size < wF.heap.size; omega))
  have sX : X.heap.size = wW.heap.size := by rw [hX]; simp
  rw [← hX]
  rw [← hX] at h9
  replace oF := Lib.hid oF
  replace oW := Lib.hid oW
  replace hX := Lib.hid hX
  have qa := qY.read 0; have qb := qY.read 1; have qc := qY.read 2; have qd := qY.read 3; have qe := qY.free 0; have qf := qY.free 1; have qg := qY.free 2; have qh := qY.free 3
  have ya := zY.read 0; have yb := zY.read 1; have yc := zY.read 2; have yd := zY.read 3; have ye := zY.free 0; have yf := zY.free 1; have yg := zY.free 2; have yh := zY.free 3
  clear qX qW zW qF z1 q1 hOF hOW hH hHF hHW h7 B2 hW2 hFh hWh qY
  refine wpAnyH_done (by kernel_rfl) ?_ _
  go_wp2_with fail
  refine bodyPost_ret (v := .agg #[.int .i64 l, .slice xF F.length cF, .slice xW W.length cW, .int .i64 m]) (by simp [results, Try.results99, go_sem, *]) rfl ⟨_, _, _, _, rfl, ⟨W2.heap.size, wF.heap.size, wF.heap.size, wW.heap.size, by omega, by simp; omega, by omega, by simp; omega, Or.inl (Nat.le_refl _), ?_, ?_⟩, ?_⟩
  repeat (refine OwR.set ?_ _ _ (Or.inl (by show w.heap.size + 1 < W2.heap.size; omega)))
  exact oF.out
  repeat (refine OwR.set ?_ _ _ (Or.inl (by show w.heap.size + 1 < wF.heap.size; omega)))
  exact oW.out
  exact (by repeat (first | exact Below.refl _ _ | assumption | refine Below.drew ?_ | refine below_drewN ?_ _ | refine Below.alloc' ?_ _ | (refine Below.setCell ?_ (by first | omega | (simp; done) | (simp; omega) | exact Below.size (by assumption) | exact Nat.le_trans (Below.size (by assumption)) (by simp)) _) | (refine Below.via' ?_ (by assumption)) | (refine Below.alloc ?_ (by first | omega | (simp; done) | (simp; omega) | exact Below.size (by assumption) | exact Nat.le_trans (Below.size (by assumption)) (by simp)) _) | (refine Below.via ?_ (by assumption) (by first | omega | (simp; done) | (simp; omega) | exact Below.size (by assumption) | exact Nat.le_trans (Below.size (by assumption)) (by simp)))))
  go_simp; refine hK.out _ _ hH (fun _ => ?_); clear hK K; (try simp only [Act.put, List.getElem_toArray, List.getElem_cons_succ, List.getElem_cons_zero, List.setIfInBounds_toArray, List.set_cons_zero, List.set_cons_succ])
  refine wpAnyH_ready (rs := [2]) (by kernel_rfl) (by simp) (AllReadyH.cons rfl (fun K hK => ?_) AllReadyH.nil); go_simp
  go_simp; refine (cloneInt_any x c F _ hmF hcF hnF (hFh.out.below (by exact (by repeat (first | exact Below.refl _ _ | assumption | refine Below.drew ?_ | refine below_drewN ?_ _ | refine Below.alloc' ?_ _ | (refine Below.setCell ?_ (by first | omega | (simp; done) | (simp; omega) | exact Below.size (by assumption) | exact Nat.le_trans (Below.size (by assumption)) (by simp)) _) | (refine Below.via' ?_ (by assumption)) | (refine Below.alloc ?_ (by first | omega | (simp; done) | (simp; omega) | exact Below.size (by assumption) | exact Nat.le_trans (Below.size (by assumption)) (by simp)) _) | (refine Below.via ?_ (by assumption) (by first | omega | (simp; done) | (simp; omega) | exact Below.size (by assumption) | exact Nat.le_trans (Below.size (by assumption)) (by simp)))))))).mono ?_; rintro e wF ⟨uF, rfl, hoF, hbF⟩; (have hOF := Lib.hid (OwR.of hoF)); (obtain ⟨xF, cF, rfl, -, -⟩ := hOF.out.form); clear hoF p1 p2; (have qF := Lib.hid (q1.out.kept hbF)); (have p1 := qF.out.read 1); (have p2 := qF.out.read 2); refine hK.out _ _ (Below.via' hH hbF) (fun hHF => ?_); clear hK K; (try simp only [Act.put, List.getElem_toArray, List.getElem_cons_succ, List.getElem_cons_zero, List.setIfInBounds_toArray, List.set_cons_zero, List.set_cons_succ])
  refine wpAnyH_take (i := 6) (v := ?_) rfl (by kernel_rfl) (by kernel_rfl) (by kernel_rfl) (fun _ _ _ h => h) (Or.inl ⟨by rfl, ?_⟩) (by assumption) ?_; rotate_left; · (intro wz hz; (skip); clear hz; go_simp; try with_reducible rfl); (try simp only [Act.put, List.getElem_toArray, List.getElem_cons_succ, List.getElem_cons_zero, List.setIfInBounds_toArray, List.set_cons_zero, List.set_cons_succ])
  refine wpAnyH_ready (rs := [5]) (by kernel_rfl) (by simp) (AllReadyH.cons rfl (fun K hK => ?_) AllReadyH.nil); go_simp
  go_simp; refine (cloneInt_any z d W _ hmW hcW hnW (hWh.out.below (by exact (by repeat (first | exact Below.refl _ _ | assumption | refine Below.drew ?_ | refine below_drewN ?_ _ | refine Below.alloc' ?_ _ | (refine Below.setCell ?_ (by first | omega | (simp; done) | (simp; omega) | exact Below.size (by assumption) | exact Nat.le_trans (Below.size (by assumption)) (by simp)) _) | (refine Below.via' ?_ (by assumption)) | (refine Below.alloc ?_ (by first | omega | (simp; done) | (simp; omega) | exact Below.size (by assumption) | exact Nat.le_trans (Below.size (by assumption)) (by simp)) _) | (refine Below.via ?_ (by assumption) (by first | omega | (simp; done) | (simp; omega) | exact Below.size (by assumption) | exact Nat.le_trans (Below.size (by assumption)) (by simp)))))))).mono ?_; rintro e wW ⟨uW, rfl, hoW, hbW⟩; (have hOW := Lib.hid (OwR.of hoW)); (obtain ⟨xW, cW, rfl, -, -⟩ := hOW.out.form); clear hoW p1 p2; refine hK.out _ _ (Below.via' hHF hbW) (fun hHW => ?_); clear hK K; (try simp only [Act.put, List.getElem_toArray, List.getElem_cons_succ, List.getElem_cons_zero, List.setIfInBounds_toArray, List.set_cons_zero, List.set_cons_succ])
  have e1 := hbF.size
  have e2 := hbW.size
  have zW := Lib.hid ((z1.out.kept hbF).kept hbW)
  have qW := Lib.hid (qF.out.kept hbW)
  have u1 := qW.out.read 1
  have u2 := qW.out.free 1
  refine wpAnyH_ready (rs := [7]) (by kernel_rfl) (by simp) (AllReadyH.cons rfl (fun K hK => ?_) AllReadyH.nil); go_simp
  have h7 : Below w.heap.size w (wW.setCell ⟨w.heap.size, 1, none⟩ (.slice xF F.length cF)) := (by repeat (first | exact Below.refl _ _ | assumption | refine Below.drew ?_ | refine below_drewN ?_ _ | refine Below.alloc' ?_ _ | (refine Below.setCell ?_ (by first | omega | (simp; done) | (simp; omega) | exact Below.size (by assumption) | exact Nat.le_trans (Below.size (by assumption)) (by simp)) _) | (refine Below.via' ?_ (by assumption)) | (refine Below.alloc ?_ (by first | omega | (simp; done) | (simp; omega) | exact Below.size (by assumption) | exact Nat.le_trans (Below.size (by assumption)) (by simp)) _) | (refine Below.via ?_ (by assumption) (by first | omega | (simp; done) | (simp; omega) | exact Below.size (by assumption) | exact Nat.le_trans (Below.size (by assumption)) (by simp)))))
  refine hK.out _ _ h7 (fun _ => ?_)
  clear hK K u1 u2
  (try simp only [Act.put, List.getElem_toArray, List.getElem_cons_succ, List.getElem_cons_zero, List.setIfInBounds_toArray, List.set_cons_zero, List.set_cons_succ])
  have qX := Lib.hid (show Wb (wW.setCell ⟨w.heap.size, 1, none⟩ (.slice xF F.length cF)) w.heap.size 37 #[.int .i64 l, .slice xF F.length cF, .slice z W.length d, .int .i64 m] from qW.out.put 1 _)
  have u1 := qX.out.read 2
  have u2 := qX.out.free 2
  refine wpAnyH_take (i := 8) (v := ?_) rfl (by kernel_rfl) (by kernel_rfl) (by kernel_rfl) (fun _ _ _ h => h) (Or.inl ⟨by rfl, ?_⟩) (by assumption) ?_; rotate_left; · (intro wz hz; (skip); clear hz; go_simp; try with_reducible rfl); (try simp only [Act.put, List.getElem_toArray, List.getElem_cons_succ, List.getElem_cons_zero, List.setIfInBounds_toArray, List.set_cons_zero, List.set_cons_succ])
  refine wpAnyH_ready (rs := [9]) (by kernel_rfl) (by simp) (AllReadyH.cons rfl (fun K hK => ?_) AllReadyH.nil); go_simp
  have h9 : Below w.heap.size w ((wW.setCell ⟨w.heap.size, 1, none⟩ (.slice xF F.length cF)).setCell ⟨w.heap.size, 2, none⟩ (.slice xW W.length cW)) := (by repeat (first | exact Below.refl _ _ | assumption | refine Below.drew ?_ | refine below_drewN ?_ _ | refine Below.alloc' ?_ _ | (refine Below.setCell ?_ (by first | omega | (simp; done) | (simp; omega) | exact Below.size (by assumption) | exact Nat.le_trans (Below.size (by assumption)) (by simp)) _) | (refine Below.via' ?_ (by assumption)) | (refine Below.alloc ?_ (by first | omega | (simp; done) | (simp; omega) | exact Below.size (by assumption) | exact Nat.le_trans (Below.size (by assumption)) (by simp)) _) | (refine Below.via ?_ (by assumption) (by first | omega | (simp; done) | (simp; omega) | exact Below.size (by assumption) | exact Nat.le_trans (Below.size (by assumption)) (by simp)))))
  refine hK.out _ _ h9 (fun _ => ?_)
  clear hK K u1 u2
  (try simp only [Act.put, List.getElem_toArray, List.getElem_cons_succ, List.getElem_cons_zero, List.setIfInBounds_toArray, List.set_cons_zero, List.set_cons_succ])
  obtain ⟨X, hX⟩ : ∃ X, X = ((wW.setCell ⟨w.heap.size, 1, none⟩ (.slice xF F.length cF)).setCell ⟨w.heap.size, 2, none⟩ (.slice xW W.length cW)) := ⟨_, rfl⟩
  have qY : Wb X w.heap.size 37 #[.int .i64 l, .slice xF F.length cF, .slice xW W.length cW, .int .i64 m] := by rw [hX]; exact qX.out.put 2 _
  have zY : Wb X (w.heap.size + 1) 37 #[.int .i64 0, .slice none 0 0, .slice none 0 0, .int .i64 0] := by rw [hX]; exact ((Below.heap_setCell _ _ _ _ (by simp)).trans ((Below.heap_setCell _ _ _ _ (by simp)).trans zW.out))
  have oF : OwR X W2.heap.size wF.heap.size 3 1 (.slice xF F.length cF) F.length (iC F) := by rw [hX]; exact ((hOF.out.below hbW).set _ _ (Or.inl (by show w.heap.size < W2.heap.size; omega))).set _ _ (Or.inl (by show w.heap.size < W2.heap.size; omega))
  have oW : OwR X wF.heap.size wW.heap.size 3 1 (.slice xW W.length cW) W.length (iC W) := by rw [hX]; exact (hOW.out.set _ _ (Or.inl (by show w.heap.size < wF.heap.size; omega))).set _ _ (Or.inl (by show w.heap.size < wF.heap.size; omega))
  have sX : X.heap.size = wW.heap.size := by rw [hX]; simp
  rw [← hX]
  rw [← hX] at h9
  replace oF := Lib.hid oF
  replace oW := Lib.hid oW
  replace hX := Lib.hid hX
  have qa := qY.read 0; have qb := qY.read 1; have qc := qY.read 2; have qd := qY.read 3; have qe := qY.free 0; have qf := qY.free 1; have qg := qY.free 2; have qh := qY.free 3
  have ya := zY.read 0; have yb := zY.read 1; have yc := zY.read 2; have yd := zY.read 3; have ye := zY.free 0; have yf := zY.free 1; have yg := zY.free 2; have yh := zY.free 3
  clear qX qW zW qF z1 q1 hOF hOW hH hHF hHW h7 B2 hW2 hFh hWh qY
  refine wpAnyH_done (by kernel_rfl) ?_ _
  go_wp2_with fail
  refine bodyPost_ret (v := .agg #[.int .i64 l, .slice xF F.length cF, .slice xW W.length cW, .int .i64 m]) (by simp [results, Try.results99, go_sem, *]) rfl ⟨_, _, _, _, rfl, ⟨W2.heap.size, wF.heap.size, wF.heap.size, wW.heap.size, by omega, by simp; omega, by omega, by simp; omega, Or.inl (Nat.le_refl _), ?_, ?_⟩, ?_⟩
  repeat (refine OwR.set ?_ _ _ (Or.inl (by show w.heap.size + 1 < W2.heap.size; omega)))
  exact oF.out
  repeat (refine OwR.set ?_ _ _ (Or.inl (by show w.heap.size + 1 < wF.heap.size; omega)))
  exact oW.out
  exact (by repeat (first | exact Below.refl _ _ | assumption | refine Below.drew ?_ | refine below_drewN ?_ _ | refine Below.alloc' ?_ _ | (refine Below.setCell ?_ (by first | omega | (simp; done) | (simp; omega) | exact Below.size (by assumption) | exact Nat.le_trans (Below.size (by assumption)) (by simp)) _) | (refine Below.via' ?_ (by assumption)) | (refine Below.alloc ?_ (by first | omega | (simp; done) | (simp; omega) | exact Below.size (by assumption) | exact Nat.le_trans (Below.size (by assumption)) (by simp)) _) | (refine Below.via ?_ (by assumption) (by first | omega | (simp; done) | (simp; omega) | exact Below.size (by assumption) | exact Nat.le_trans (Below.size (by assumption)) (by simp)))))
  go_simp; refine hK.out _ _ hH (fun _ => ?_); clear hK K; (try simp only [Act.put, List.getElem_toArray, List.getElem_cons_succ, List.getElem_cons_zero, List.setIfInBounds_toArray, List.set_cons_zero, List.set_cons_succ])
  refine wpAnyH_ready (rs := [1]) (by kernel_rfl) (by simp) (AllReadyH.cons rfl (fun K hK => ?_) AllReadyH.nil); go_simp
  go_simp; refine hK.out _ _ hH (fun _ => ?_); clear hK K; (try simp only [Act.put, List.getElem_toArray, List.getElem_cons_succ, List.getElem_cons_zero, List.setIfInBounds_toArray, List.set_cons_zero, List.set_cons_succ])
  refine wpAnyH_ready (rs := [2]) (by kernel_rfl) (by simp) (AllReadyH.cons rfl (fun K hK => ?_) AllReadyH.nil); go_simp
  go_simp; refine (cloneInt_any x c F _ hmF hcF hnF (hFh.out.below (by exact (by repeat (first | exact Below.refl _ _ | assumption | refine Below.drew ?_ | refine below_drewN ?_ _ | refine Below.alloc' ?_ _ | (refine Below.setCell ?_ (by first | omega | (simp; done) | (simp; omega) | exact Below.size (by assumption) | exact Nat.le_trans (Below.size (by assumption)) (by simp)) _) | (refine Below.via' ?_ (by assumption)) | (refine Below.alloc ?_ (by first | omega | (simp; done) | (simp; omega) | exact Below.size (by assumption) | exact Nat.le_trans (Below.size (by assumption)) (by simp)) _) | (refine Below.via ?_ (by assumption) (by first | omega | (simp; done) | (simp; omega) | exact Below.size (by assumption) | exact Nat.le_trans (Below.size (by assumption)) (by simp)))))))).mono ?_; rintro e wF ⟨uF, rfl, hoF, hbF⟩; (have hOF := Lib.hid (OwR.of hoF)); (obtain ⟨xF, cF, rfl, -, -⟩ := hOF.out.form); clear hoF p1 p2; (have qF := Lib.hid (q1.out.kept hbF)); (have p1 := qF.out.read 1); (have p2 := qF.out.read 2); refine hK.out _ _ (Below.via' hH hbF) (fun hHF => ?_); clear hK K; (try simp only [Act.put, List.getElem_toArray, List.getElem_cons_succ, List.getElem_cons_zero, List.setIfInBounds_toArray, List.set_cons_zero, List.set_cons_succ])
  refine wpAnyH_take (i := 6) (v := ?_) rfl (by kernel_rfl) (by kernel_rfl) (by kernel_rfl) (fun _ _ _ h => h) (Or.inl ⟨by rfl, ?_⟩) (by assumption) ?_; rotate_left; · (intro wz hz; (skip); clear hz; go_simp; try with_reducible rfl); (try simp only [Act.put, List.getElem_toArray, List.getElem_cons_succ, List.getElem_cons_zero, List.setIfInBounds_toArray, List.set_cons_zero, List.set_cons_succ])
  refine wpAnyH_ready (rs := [5]) (by kernel_rfl) (by simp) (AllReadyH.cons rfl (fun K hK => ?_) AllReadyH.nil); go_simp
  go_simp; refine (cloneInt_any z d W _ hmW hcW hnW (hWh.out.below (by exact (by repeat (first | exact Below.refl _ _ | assumption | refine Below.drew ?_ | refine below_drewN ?_ _ | refine Below.alloc' ?_ _ | (refine Below.setCell ?_ (by first | omega | (simp; done) | (simp; omega) | exact Below.size (by assumption) | exact Nat.le_trans (Below.size (by assumption)) (by simp)) _) | (refine Below.via' ?_ (by assumption)) | (refine Below.alloc ?_ (by first | omega | (simp; done) | (simp; omega) | exact Below.size (by assumption) | exact Nat.le_trans (Below.size (by assumption)) (by simp)) _) | (refine Below.via ?_ (by assumption) (by first | omega | (simp; done) | (simp; omega) | exact Below.size (by assumption) | exact Nat.le_trans (Below.size (by assumption)) (by simp)))))))).mono ?_; rintro e wW ⟨uW, rfl, hoW, hbW⟩; (have hOW := Lib.hid (OwR.of hoW)); (obtain ⟨xW, cW, rfl, -, -⟩ := hOW.out.form); clear hoW p1 p2; refine hK.out _ _ (Below.via' hHF hbW) (fun hHW => ?_); clear hK K; (try simp only [Act.put, List.getElem_toArray, List.getElem_cons_succ, List.getElem_cons_zero, List.setIfInBounds_toArray, List.set_cons_zero, List.set_cons_succ])
  have e1 := hbF.size
  have e2 := hbW.size
  have zW := Lib.hid ((z1.out.kept hbF).kept hbW)
  have qW := Lib.hid (qF.out.kept hbW)
  have u1 := qW.out.read 1
  have u2 := qW.out.free 1
  refine wpAnyH_ready (rs := [7]) (by kernel_rfl) (by simp) (AllReadyH.cons rfl (fun K hK => ?_) AllReadyH.nil); go_simp
  have h7 : Below w.heap.size w (wW.setCell ⟨w.heap.size, 1, none⟩ (.slice xF F.length cF)) := (by repeat (first | exact Below.refl _ _ | assumption | refine Below.drew ?_ | refine below_drewN ?_ _ | refine Below.alloc' ?_ _ | (refine Below.setCell ?_ (by first | omega | (simp; done) | (simp; omega) | exact Below.size (by assumption) | exact Nat.le_trans (Below.size (by assumption)) (by simp)) _) | (refine Below.via' ?_ (by assumption)) | (refine Below.alloc ?_ (by first | omega | (simp; done) | (simp; omega) | exact Below.size (by assumption) | exact Nat.le_trans (Below.size (by assumption)) (by simp)) _) | (refine Below.via ?_ (by assumption) (by first | omega | (simp; done) | (simp; omega) | exact Below.size (by assumption) | exact Nat.le_trans (Below.size (by assumption)) (by simp)))))
  refine hK.out _ _ h7 (fun _ => ?_)
  clear hK K u1 u2
  (try simp only [Act.put, List.getElem_toArray, List.getElem_cons_succ, List.getElem_cons_zero, List.setIfInBounds_toArray, List.set_cons_zero, List.set_cons_succ])
  have qX := Lib.hid (show Wb (wW.setCell ⟨w.heap.size, 1, none⟩ (.slice xF F.length cF)) w.heap.size 37 #[.int .i64 l, .slice xF F.length cF, .slice z W.length d, .int .i64 m] from qW.out.put 1 _)
  have u1 := qX.out.read 2
  have u2 := qX.out.free 2
  refine wpAnyH_take (i := 8) (v := ?_) rfl (by kernel_rfl) (by kernel_rfl) (by kernel_rfl) (fun _ _ _ h => h) (Or.inl ⟨by rfl, ?_⟩) (by assumption) ?_; rotate_left; · (intro wz hz; (skip); clear hz; go_simp; try with_reducible rfl); (try simp only [Act.put, List.getElem_toArray, List.getElem_cons_succ, List.getElem_cons_zero, List.setIfInBounds_toArray, List.set_cons_zero, List.set_cons_succ])
  refine wpAnyH_ready (rs := [9]) (by kernel_rfl) (by simp) (AllReadyH.cons rfl (fun K hK => ?_) AllReadyH.nil); go_simp
  have h9 : Below w.heap.size w ((wW.setCell ⟨w.heap.size, 1, none⟩ (.slice xF F.length cF)).setCell ⟨w.heap.size, 2, none⟩ (.slice xW W.length cW)) := (by repeat (first | exact Below.refl _ _ | assumption | refine Below.drew ?_ | refine below_drewN ?_ _ | refine Below.alloc' ?_ _ | (refine Below.setCell ?_ (by first | omega | (simp; done) | (simp; omega) | exact Below.size (by assumption) | exact Nat.le_trans (Below.size (by assumption)) (by simp)) _) | (refine Below.via' ?_ (by assumption)) | (refine Below.alloc ?_ (by first | omega | (simp; done) | (simp; omega) | exact Below.size (by assumption) | exact Nat.le_trans (Below.size (by assumption)) (by simp)) _) | (refine Below.via ?_ (by assumption) (by first | omega | (simp; done) | (simp; omega) | exact Below.size (by assumption) | exact Nat.le_trans (Below.size (by assumption)) (by simp)))))
  refine hK.out _ _ h9 (fun _ => ?_)
  clear hK K u1 u2
  (try simp only [Act.put, List.getElem_toArray, List.getElem_cons_succ, List.getElem_cons_zero, List.setIfInBounds_toArray, List.set_cons_zero, List.set_cons_succ])
  obtain ⟨X, hX⟩ : ∃ X, X = ((wW.setCell ⟨w.heap.size, 1, none⟩ (.slice xF F.length cF)).setCell ⟨w.heap.size, 2, none⟩ (.slice xW W.length cW)) := ⟨_, rfl⟩
  have qY : Wb X w.heap.size 37 #[.int .i64 l, .slice xF F.length cF, .slice xW W.length cW, .int .i64 m] := by rw [hX]; exact qX.out.put 2 _
  have zY : Wb X (w.heap.size + 1) 37 #[.int .i64 0, .slice none 0 0, .slice none 0 0, .int .i64 0] := by rw [hX]; exact ((Below.heap_setCell _ _ _ _ (by simp)).trans ((Below.heap_setCell _ _ _ _ (by simp)).trans zW.out))
  have oF : OwR X W2.heap.size wF.heap.size 3 1 (.slice xF F.length cF) F.length (iC F) := by rw [hX]; exact ((hOF.out.below hbW).set _ _ (Or.inl (by show w.heap.size < W2.heap.size; omega))).set _ _ (Or.inl (by show w.heap.size < W2.heap.size; omega))
  have oW : OwR X wF.heap.size wW.heap.size 3 1 (.slice xW W.length cW) W.length (iC W) := by rw [hX]; exact (hOW.out.set _ _ (Or.inl (by show w.heap.size < wF.heap.size; omega))).set _ _ (Or.inl (by show w.heap.size < wF.heap.size; omega))
  have sX : X.heap.size = wW.heap.size := by rw [hX]; simp
  rw [← hX]
  rw [← hX] at h9
  replace oF := Lib.hid oF
  replace oW := Lib.hid oW
  replace hX := Lib.hid hX
  have qa := qY.read 0; have qb := qY.read 1; have qc := qY.read 2; have qd := qY.read 3; have qe := qY.free 0; have qf := qY.free 1; have qg := qY.free 2; have qh := qY.free 3
  have ya := zY.read 0; have yb := zY.read 1; have yc := zY.read 2; have yd := zY.read 3; have ye := zY.free 0; have yf := zY.free 1; have yg := zY.free 2; have yh := zY.free 3
  clear qX qW zW qF z1 q1 hOF hOW hH hHF hHW h7 B2 hW2 hFh hWh qY
  refine wpAnyH_done (by kernel_rfl) ?_ _
  go_wp2_with fail
  refine bodyPost_ret (v := .agg #[.int .i64 l, .slice xF F.length cF, .slice xW W.length cW, .int .i64 m]) (by simp [results, Try.results99, go_sem, *]) rfl ⟨_, _, _, _, rfl, ⟨W2.heap.size, wF.heap.size, wF.heap.size, wW.heap.size, by omega, by simp; omega, by omega, by simp; omega, Or.inl (Nat.le_refl _), ?_, ?_⟩, ?_⟩
  repeat (refine OwR.set ?_ _ _ (Or.inl (by show w.heap.size + 1 < W2.heap.size; omega)))
  exact oF.out
  repeat (refine OwR.set ?_ _ _ (Or.inl (by show w.heap.size + 1 < wF.heap.size; omega)))
  exact oW.out
  exact (by repeat (first | exact Below.refl _ _ | assumption | refine Below.drew ?_ | refine below_drewN ?_ _ | refine Below.alloc' ?_ _ | (refine Below.setCell ?_ (by first | omega | (simp; done) | (simp; omega) | exact Below.size (by assumption) | exact Nat.le_trans (Below.size (by assumption)) (by simp)) _) | (refine Below.via' ?_ (by assumption)) | (refine Below.alloc ?_ (by first | omega | (simp; done) | (simp; omega) | exact Below.size (by assumption) | exact Nat.le_trans (Below.size (by assumption)) (by simp)) _) | (refine Below.via ?_ (by assumption) (by first | omega | (simp; done) | (simp; omega) | exact Below.size (by assumption) | exact Nat.le_trans (Below.size (by assumption)) (by simp)))))
end Go.Proofs.Ytpmbenedeakieaa

namespace Go.Proofs.Ytpmbenedeakieaa
open Go.RowKit
set_option maxRecDepth 100000

theorem iC_setN (L : List Int) (k : Nat) (v : Int) : (iC L).set k (.int .i64 v) = iC (L.set k v) := by unfold iC; rw [List.map_set]
theorem wb_farN {w w' : World} {g t : Nat} {cs : Array Value} {r : Option Nat} (h : Wb w g t cs) (hg : w.grownBy w' r) (hne : r ≠ some g) : Wb w' g t cs := (hg.block g h.inside (fun e => hne e.symm)).trans h
theorem kd_ne {lv x : Int} (h : x ≠ flZ lv) : (kdZ lv x == 2) = false := by
  unfold kdZ
  by_cases k : x ≤ 0 ∨ flZ lv < x
  · rw [if_pos k]; rfl
  · rw [if_neg k, if_neg h]; rfl
theorem kd_eq {lv x : Int} (h : 2 ≤ lv ∧ lv ≤ 8) (k : x = flZ lv) : (kdZ lv x == 2) = true := by rw [kdZ_all h k]; rfl
theorem retT_of {l : Int} {F W V : List Int} {m : Int} {w w' : World} {xF : Option Addr} {cF g cW : Nat} (hl : V.length = W.length) (h : OwY w' w.heap.size w'.heap.size (.slice xF F.length cF) (.slice (some ⟨g, 0, none⟩) V.length cW) F V) (hb : Below w.heap.size w w') :
    RetT l F V m w (.returned (.agg #[.int .i64 l, .slice xF F.length cF, .slice (some ⟨g, 0, none⟩) W.length cW, .int .i64 m])) w' := by
  rw [← hl]
  exact ⟨_, _, _, _, rfl, h, hb⟩
set_option maxHeartbeats 4000000 in
theorem normalTable_any (y x z : Option Addr) (c1 c d : Nat) (S : List (ByteArray × Int)) (l : Int) (F W : List Int) (m : Int) (w : World) (hs : schB S = true) (hl : W.length = S.length) (hS : SIn w y c1 S) (hmF : F.length ≤ 1048576) (hcF : F.length ≤ c) (hnF : x = none → c = 0) (hcW : W.length ≤ d) (hnW : z = none → d = 0) (hF : Rd w x (iC F)) (hW : Rd w z (iC W)) :
    Calls Try.prog 90 #[.slice y S.length c1, .agg #[.int .i64 l, .slice x F.length c, .slice z W.length d, .int .i64 m]] w (RetT l F (nwL S W) m w) := by
  have hSh := Lib.hid hS
  have hFh := Lib.hid hF
  have hWh := Lib.hid hW
  have hsh := Lib.hid hs
  have h6 := schB_len hs
  have hlh := Lib.hid hl
  have hW6 : W.length ≤ 6 := by omega
  have hW1 : 0 < W.length := by omega
  clear hF hW hS hs hl
  have q0 := TQ.new w l x F.length c z W.length d m 37
  obtain ⟨W2, hW2⟩ : ∃ W2, W2 = (w.alloc (.cells #[.int .i64 l, .slice x F.length c, .slice z W.length d, .int .i64 m] 37)).alloc (.cells #[.int .i64 0, .slice none 0 0, .slice none 0 0, .int .i64 0] 37) := ⟨_, rfl⟩
  have B2 : Below w.heap.size w W2 := by rw [hW2]; exact (by repeat (first | exact Below.refl _ _ | assumption | refine Below.drew ?_ | refine below_drewN ?_ _ | refine Below.alloc' ?_ _ | (refine Below.setCell ?_ (by first | omega | (simp; done) | (simp; omega) | exact Below.size (by assumption) | exact Nat.le_trans (Below.size (by assumption)) (by simp)) _) | (refine Below.via' ?_ (by assumption)) | (refine Below.alloc ?_ (by first | omega | (simp; done) | (simp; omega) | exact Below.size (by assumption) | exact Nat.le_trans (Below.size (by assumption)) (by simp)) _) | (refine Below.via ?_ (by assumption) (by first | omega | (simp; done) | (simp; omega) | exact Below.size (by assumption) | exact Nat.le_trans (Below.size (by assumption)) (by simp)))))
  have zz := Wb.new (w.alloc (.cells #[.int .i64 l, .slice x F.length c, .slice z W.length d, .int .i64 m] 37)) 37 #[.int .i64 0, .slice none 0 0, .slice none 0 0, .int .i64 0]
  rw [← hW2, World.size_alloc] at zz
  have hs2 : W2.heap.size = w.heap.size + 1 + 1 := by rw [hW2]; simp
  replace zz := Lib.hid zz
  replace hW2 := Lib.hid hW2
  replace q0 := Lib.hid q0
  go_enter Try.func90, Try.ntmps90
  go_wp2_with fail
  rw [← hW2.out]
  refine (copyTable_any l x z _ _ F W m _ hmF (by omega) hcF hnF hcW hnW (hFh.out.below B2) (hWh.out.below B2)).mono ?_
  rintro e w3 ⟨xF, cF, xW, cW, rfl, ⟨a0, a1, a2, a3, o1, o2, o3, o4, o5, hOF, hOW⟩, hb3⟩
  obtain ⟨g, gc, hg⟩ := own_someV hOW.1 hW1
  injection hg with hg1 hg2 hg3
  subst hg1 hg3
  have B3 := Below.via' B2 hb3
  have zz3 := Lib.hid (zz.out.kept hb3)
  have hOFh := Lib.hid hOF
  have hOWh := Lib.hid hOW
  have hsz := hb3.size
  have hn := Wb.new w3 37 #[.int .i64 l, .slice xF F.length cF, .slice (some ⟨g, 0, none⟩) W.length cW, .int .i64 m]
  replace hn := Lib.hid hn
  clear hOF hOW zz q0
  have hbA : Below w3.heap.size w3 (w3.alloc (.cells #[.int .i64 l, .slice xF F.length cF, .slice (some ⟨g, 0, none⟩) W.length cW, .int .i64 m] 37)) := (by repeat (first | exact Below.refl _ _ | assumption | refine Below.drew ?_ | refine below_drewN ?_ _ | refine Below.alloc' ?_ _ | (refine Below.setCell ?_ (by first | omega | (simp; done) | (simp; omega) | exact Below.size (by assumption) | exact Nat.le_trans (Below.size (by assumption)) (by simp)) _) | (refine Below.via' ?_ (by assumption)) | (refine Below.alloc ?_ (by first | omega | (simp; done) | (simp; omega) | exact Below.size (by assumption) | exact Nat.le_trans (Below.size (by assumption)) (by simp)) _) | (refine Below.via ?_ (by assumption) (by first | omega | (simp; done) | (simp; omega) | exact Below.size (by assumption) | exact Nat.le_trans (Below.size (by assumption)) (by simp)))))
  go_wp2
  go_loopw [12] (fun c wr => ∃ i : Nat, i ≤ S.length ∧ c = .int .i64 i ∧ OwR wr a2 a3 3 1 (.slice (some ⟨g, 0, none⟩) W.length cW) W.length (iC (kK (nwL S W) W i)) ∧ OwR wr a0 a1 3 1 (.slice xF F.length cF) F.length (iC F) ∧ Wb wr w3.heap.size 37 #[.int .i64 l, .slice xF F.length cF, .slice (some ⟨g, 0, none⟩) W.length cW, .int .i64 m] ∧ Wb wr (w.heap.size + 1) 37 #[.int .i64 0, .slice none 0 0, .slice none 0 0, .int .i64 0] ∧ Below w.heap.size w wr) (fun c _ => S.length - (intOf c).toNat)
  case atStart => exact ⟨0, by omega, by go_num, by rw [kK_zero]; exact hOWh.out.below hbA, hOFh.out.below hbA, hn.out, zz3.out.kept hbA, Below.via' B3 hbA⟩
  case round =>
    obtain ⟨i, hi, rfl, hOW, hOF, hT, hZ, hb⟩ := hrel
    by_cases hlt : i < S.length
    · obtain ⟨bl, off, nm, lv, rfl, hbl, hSi, ks0, ks1⟩ := (hSh.out.rd.below hb).var hlt
      have hlv := schB_lv hsh.out hSi
      obtain ⟨x0, hx0⟩ : ∃ x0, W[i]? = some x0 := ⟨_, List.getElem?_eq_getElem (by have := hlh.out; omega)⟩
      have hkg := kK_get (A := nwL S W) (W := W) (by rw [nwL_len hlh.out]; exact hi) hx0
      obtain ⟨u0, hu0, k0r⟩ := own_cell hOW.1 (j := i) (by have := hlh.out; omega)
      obtain rfl : u0 = .int .i64 x0 := Option.some.inj (hu0.symm.trans (iC_at hkg))
      have lgr := (own_lt hOW.1).2
      have hb' := Below.via' (Below.refl _ _) hb
      obtain ⟨wv, hwv⟩ : ∃ wv, wv = wr.alloc (.cells #[.string nm, .int .i64 lv] 94) := ⟨_, rfl⟩
      have hv := Wb.new wr 94 #[.string nm, .int .i64 lv]
      have BV : Below wr.heap.size wr wv := by rw [hwv]; exact Below.alloc' (Below.refl _ _) _
      rw [← hwv] at hv
      have v0 := hv.read 0
      have v1 := hv.read 1
      have lv0 := hv.inside
      have hTv := hT.kept BV
      have t2 := hTv.read 2
      have lt0 := hTv.inside
      have k0 := (BV.cell (p := ⟨g, i, none⟩) lgr).trans k0r
      have lg0 : g < wv.heap.size := Nat.lt_of_lt_of_le lgr BV.size
      have hlt' : (i : Int) < (S.length : Int) := by omega
      have hi0 : (0 : Int) ≤ (i : Int) := by omega
      have hiW : (i : Int) < (W.length : Int) := by have := hlh.out; omega
      replace hwv := Lib.hid hwv
      replace hOW := Lib.hid hOW
      replace hOF := Lib.hid hOF
      replace hT := Lib.hid hT
      replace hZ := Lib.hid hZ
      replace hTv := Lib.hid hTv
      clear hv hu0
      replace hkg := Lib.hid hkg
      replace hx0 := Lib.hid hx0
      replace hSi := Lib.hid hSi
      go_upto_region 5 with fail
      rw [← hwv.out]
      refine wp_region_held_drew (S := fun X => Below wv.heap.size wv X) (by kernel_rfl) (Below.drew (Below.refl _ _)) (fun hH => ?_)
      refine wpAnyH_take (i := 0) (v := ?_) rfl (by kernel_rfl) (by kernel_rfl) (by kernel_rfl) (fun _ _ _ h => h) (Or.inl ⟨by rfl, ?_⟩) (by assumption) ?_; rotate_left; · (intro wz hz; (have f0 := (hz.cell (p := ⟨wr.heap.size, 0, none⟩) lv0).trans v0; have f1 := (hz.cell (p := ⟨wr.heap.size, 1, none⟩) lv0).trans v1; have f2 := (hz.cell (p := ⟨w3.heap.size, 2, none⟩) lt0).trans t2; have f3 := (hz.cell (p := ⟨g, i, none⟩) lg0).trans k0); clear hz; go_simp; try with_reducible rfl); (try simp only [Act.put, List.getElem_toArray, List.getElem_cons_succ, List.getElem_cons_zero, List.setIfInBounds_toArray, List.set_cons_zero, List.set_cons_succ])
      refine wpAnyH_take (i := 1) (v := ?_) rfl (by kernel_rfl) (by kernel_rfl) (by kernel_rfl) (fun _ _ _ h => h) (Or.inl ⟨by rfl, ?_⟩) (by assumption) ?_; rotate_left; · (intro wz hz; (have f0 := (hz.cell (p := ⟨wr.heap.size, 0, none⟩) lv0).trans v0; have f1 := (hz.cell (p := ⟨wr.heap.size, 1, none⟩) lv0).trans v1; have f2 := (hz.cell (p := ⟨w3.heap.size, 2, none⟩) lt0).trans t2; have f3 := (hz.cell (p := ⟨g, i, none⟩) lg0).trans k0); clear hz; go_simp; try with_reducible rfl); (try simp only [Act.put, List.getElem_toArray, List.getElem_cons_succ, List.getElem_cons_zero, List.setIfInBounds_toArray, List.set_cons_zero, List.set_cons_succ])
      refine wpAnyH_take (i := 2) (v := ?_) rfl (by kernel_rfl) (by kernel_rfl) (by kernel_rfl) (fun _ _ _ h => h) (Or.inl ⟨by rfl, ?_⟩) (by assumption) ?_; rotate_left; · (intro wz hz; (have f0 := (hz.cell (p := ⟨wr.heap.size, 0, none⟩) lv0).trans v0; have f1 := (hz.cell (p := ⟨wr.heap.size, 1, none⟩) lv0).trans v1; have f2 := (hz.cell (p := ⟨w3.heap.size, 2, none⟩) lt0).trans t2; have f3 := (hz.cell (p := ⟨g, i, none⟩) lg0).trans k0); clear hz; go_simp; try with_reducible rfl); (try simp only [Act.put, List.getElem_toArray, List.getElem_cons_succ, List.getElem_cons_zero, List.setIfInBounds_toArray, List.set_cons_zero, List.set_cons_succ])
      refine wpAnyH_take (i := 3) (v := ?_) rfl (by kernel_rfl) (by kernel_rfl) (by kernel_rfl) (fun _ _ _ h => h) (Or.inl ⟨by rfl, ?_⟩) (by assumption) ?_; rotate_left; · (intro wz hz; (have f0 := (hz.cell (p := ⟨wr.heap.size, 0, none⟩) lv0).trans v0; have f1 := (hz.cell (p := ⟨wr.heap.size, 1, none⟩) lv0).trans v1; have f2 := (hz.cell (p := ⟨w3.heap.size, 2, none⟩) lt0).trans t2; have f3 := (hz.cell (p := ⟨g, i, none⟩) lg0).trans k0); clear hz; go_simp; try with_reducible rfl); (try simp only [Act.put, List.getElem_toArray, List.getElem_cons_succ, List.getElem_cons_zero, List.setIfInBounds_toArray, List.set_cons_zero, List.set_cons_succ])
      refine wpAnyH_take (i := 4) (v := ?_) rfl (by kernel_rfl) (by kernel_rfl) (by kernel_rfl) (fun _ _ _ h => h) (Or.inl ⟨by rfl, ?_⟩) (by assumption) ?_; rotate_left; · (intro wz hz; (have f0 := (hz.cell (p := ⟨wr.heap.size, 0, none⟩) lv0).trans v0; have f1 := (hz.cell (p := ⟨wr.heap.size, 1, none⟩) lv0).trans v1; have f2 := (hz.cell (p := ⟨w3.heap.size, 2, none⟩) lt0).trans t2; have f3 := (hz.cell (p := ⟨g, i, none⟩) lg0).trans k0); clear hz; go_simp; try with_reducible rfl); (try simp only [Act.put, List.getElem_toArray, List.getElem_cons_succ, List.getElem_cons_zero, List.setIfInBounds_toArray, List.set_cons_zero, List.set_cons_succ])
      refine wpAnyH_take (i := 5) (v := ?_) rfl (by kernel_rfl) (by kernel_rfl) (by kernel_rfl) (fun _ _ _ h => h) (Or.inl ⟨by rfl, ?_⟩) (by assumption) ?_; rotate_left; · (intro wz hz; (have f0 := (hz.cell (p := ⟨wr.heap.size, 0, none⟩) lv0).trans v0; have f1 := (hz.cell (p := ⟨wr.heap.size, 1, none⟩) lv0).trans v1; have f2 := (hz.cell (p := ⟨w3.heap.size, 2, none⟩) lt0).trans t2; have f3 := (hz.cell (p := ⟨g, i, none⟩) lg0).trans k0); clear hz; go_simp; try with_reducible rfl); (try simp only [Act.put, List.getElem_toArray, List.getElem_cons_succ, List.getElem_cons_zero, List.setIfInBounds_toArray, List.set_cons_zero, List.set_cons_succ])
      refine wpAnyH_ready (rs := [6]) (by kernel_rfl) (by simp) (AllReadyH.cons rfl (fun K hK => ?_) AllReadyH.nil); go_simp
      refine (kindOfSet_any _ _ _ _ hlv).mono ?_
      rintro e w5 ⟨rfl, hb5⟩
      have h5 := Below.via' hH hb5
      refine hK.out _ _ h5 (fun _ => ?_)
      clear hK K
      (try simp only [Act.put, List.getElem_toArray, List.getElem_cons_succ, List.getElem_cons_zero, List.setIfInBounds_toArray, List.set_cons_zero, List.set_cons_succ])
      refine wpAnyH_take (i := 7) (v := ?_) rfl (by kernel_rfl) (by kernel_rfl) (by kernel_rfl) (fun _ _ _ h => h) (Or.inl ⟨by rfl, ?_⟩) (by assumption) ?_; rotate_left; · (intro wz hz; (skip); clear hz; go_simp; try with_reducible rfl); (try simp only [Act.put, List.getElem_toArray, List.getElem_cons_succ, List.getElem_cons_zero, List.setIfInBounds_toArray, List.set_cons_zero, List.set_cons_succ])
      refine wpAnyH_done (by kernel_rfl) ?_ _
      have B5 := Below.via' BV h5
      have hOW5 := hOW.out.below B5
      have hOF5 := hOF.out.below B5
      have hT5 := hTv.out.kept h5
      have hZ5 := hZ.out.kept B5
      have hbw := Below.via' hb B5
      by_cases hfl : x0 = flZ lv
      · have hkd := kd_eq hlv hfl
        have hst := kK_step (A := nwL S W) (W := W) (nwL_yes hSi.out hx0.out hfl) (by have := hlh.out; omega)
        obtain ⟨u1, hu1, k1⟩ := own_cell hOW5.1 (j := i) (by have := hlh.out; omega)
        have k2 := hOW5.1.frozenAt i
        have hsr := hOW5.1.stored i (.int .i64 0)
        have t5 := hT5.read 2
        have hg5 := hOW5.2 g rfl
        have hrel2 : OwR (w5.setCell ⟨g, i, none⟩ (.int .i64 0)) a2 a3 3 1 (.slice (some ⟨g, 0, none⟩) W.length cW) W.length (iC (kK (nwL S W) W (i + 1))) := by
          rw [← hst, ← iC_setN]
          exact hOW5.turn hsr.1
        have hF2 := hOF5.keep hsr.2 (fun k hk => by
          have e : g = k := by injection hk
          omega)
        have hT2 := wb_farN hT5 hsr.2 (fun hk => by
          have e : g = w3.heap.size := by injection hk
          omega)
        have hZ2 := wb_farN hZ5 hsr.2 (fun hk => by
          have e : g = w.heap.size + 1 := by injection hk
          omega)
        have hbw2 : Below w.heap.size w (w5.setCell ⟨g, i, none⟩ (.int .i64 0)) := Below.setCell hbw (by show w.heap.size ≤ g; omega) _
        replace hrel2 := Lib.hid hrel2
        replace hF2 := Lib.hid hF2
        replace hT2 := Lib.hid hT2
        replace hZ2 := Lib.hid hZ2
        replace hsr := Lib.hid hsr
        replace hst := Lib.hid hst
        replace hfl := Lib.hid hfl
        replace hbw2 := Lib.hid hbw2
        clear hOW5 hOF5 hT5 hZ5 hu1
        go_wp2
        go_roundw
        case rel => exact ⟨i + 1, by omega, by go_num, hrel2.out, hF2.out, hT2.out, hZ2.out, hbw2.out⟩
        case measure => simp [intOf]; omega
      · have hkd := kd_ne hfl
        have hst := kK_same (nwL_no hSi.out hx0.out hfl) hx0.out
        rw [← hst] at hOW5
        replace hOW5 := Lib.hid hOW5
        replace hOF5 := Lib.hid hOF5
        replace hT5 := Lib.hid hT5
        replace hZ5 := Lib.hid hZ5
        replace hst := Lib.hid hst
        replace hfl := Lib.hid hfl
        go_wp2
        go_roundw
        case rel => exact ⟨i + 1, by omega, by go_num, hOW5.out, hOF5.out, hT5.out, hZ5.out, hbw⟩
        case measure => simp [intOf]; omega
    · have hij : i = S.length := by omega
      subst hij
      rw [kK_all (nwL_len hlh.out) hlh.out] at hOW
      have ta := hT.read 0; have tb := hT.read 1; have tc := hT.read 2; have td := hT.read 3; have te := hT.free 0; have tf := hT.free 1; have tg := hT.free 2; have th := hT.free 3
      have ya := hZ.read 0; have yb := hZ.read 1; have yc := hZ.read 2; have yd := hZ.read 3; have ye := hZ.free 0; have yf := hZ.free 1; have yg := hZ.free 2; have yh := hZ.free 3
      have yin := hZ.inside
      have tin := hT.inside
      replace hOW := Lib.hid hOW
      replace hOF := Lib.hid hOF
      have hl2 := nwL_len2 (S := S) hlh.out
      replace hl2 := Lib.hid hl2
      have hbs := hb.size
      go_wp2
      refine bodyPost_ret (v := .agg #[.int .i64 l, .slice xF F.length cF, .slice (some ⟨g, 0, none⟩) W.length cW, .int .i64 m]) (by simp [results, Try.results90, go_sem, *]) rfl ?_
      refine retT_of (W := W) hl2.out ⟨a0, a1, a2, a3, ?_, ?_, ?_, ?_, o5, ?_, ?_⟩ (by repeat (first | exact Below.refl _ _ | assumption | refine Below.drew ?_ | refine below_drewN ?_ _ | refine Below.alloc' ?_ _ | (refine Below.setCell ?_ (by first | omega | (simp; done) | (simp; omega) | exact Below.size (by assumption) | exact Nat.le_trans (Below.size (by assumption)) (by simp)) _) | (refine Below.via' ?_ (by assumption)) | (refine Below.alloc ?_ (by first | omega | (simp; done) | (simp; omega) | exact Below.size (by assumption) | exact Nat.le_trans (Below.size (by assumption)) (by simp)) _) | (refine Below.via ?_ (by assumption) (by first | omega | (simp; done) | (simp; omega) | exact Below.size (by assumption) | exact Nat.le_trans (Below.size (by assumption)) (by simp)))))
      omega
      simp; omega
      omega
      simp; omega
      repeat (refine OwR.set ?_ _ _ (Or.inl (by show w.heap.size + 1 < a0; omega)))
      exact hOF.out
      repeat (refine OwR.set ?_ _ _ (Or.inl (by show w.heap.size + 1 < a2; omega)))
      rw [hl2.out]
      exact hOW.out
end Go.Proofs.Ytpmbenedeakieaa

namespace Go.Proofs.Ytpmbenedeakieaa
open Go.RowKit
set_option maxRecDepth 100000

set_option maxHeartbeats 4000000 in
theorem nNormal_any (y x z : Option Addr) (c1 c d : Nat) (S : List (ByteArray × Int)) (l : Int) (F W : List Int) (m : Int) (w : World) (hs : schB S = true) (hl : W.length = S.length) (hS : SIn w y c1 S) (hmF : F.length ≤ 1048576) (hcF : F.length ≤ c) (hnF : x = none → c = 0) (hcW : W.length ≤ d) (hnW : z = none → d = 0) (hF : Rd w x (iC F)) (hW : Rd w z (iC W)) :
    Calls Try.prog 89 #[.slice y S.length c1, .agg #[.int .i64 l, .slice x F.length c, .slice z W.length d, .int .i64 m]] w (RetT l F (nwL S W) m w) := by
  have hSh := Lib.hid hS
  have hFh := Lib.hid hF
  have hWh := Lib.hid hW
  have hsh := Lib.hid hs
  have h6 := schB_len hs
  have hlh := Lib.hid hl
  have hW6 : W.length ≤ 6 := by omega
  have hW1 : 0 < W.length := by omega
  clear hF hW hS hs hl
  have q0 := TQ.new w l x F.length c z W.length d m 37
  obtain ⟨W2, hW2⟩ : ∃ W2, W2 = (w.alloc (.cells #[.int .i64 l, .slice x F.length c, .slice z W.length d, .int .i64 m] 37)).alloc (.cells #[.int .i64 0, .slice none 0 0, .slice none 0 0, .int .i64 0] 37) := ⟨_, rfl⟩
  have B2 : Below w.heap.size w W2 := by rw [hW2]; exact (by repeat (first | exact Below.refl _ _ | assumption | refine Below.drew ?_ | refine below_drewN ?_ _ | refine Below.alloc' ?_ _ | (refine Below.setCell ?_ (by first | omega | (simp; done) | (simp; omega) | exact Below.size (by assumption) | exact Nat.le_trans (Below.size (by assumption)) (by simp)) _) | (refine Below.via' ?_ (by assumption)) | (refine Below.alloc ?_ (by first | omega | (simp; done) | (simp; omega) | exact Below.size (by assumption) | exact Nat.le_trans (Below.size (by assumption)) (by simp)) _) | (refine Below.via ?_ (by assumption) (by first | omega | (simp; done) | (simp; omega) | exact Below.size (by assumption) | exact Nat.le_trans (Below.size (by assumption)) (by simp)))))
  have zz := Wb.new (w.alloc (.cells #[.int .i64 l, .slice x F.length c, .slice z W.length d, .int .i64 m] 37)) 37 #[.int .i64 0, .slice none 0 0, .slice none 0 0, .int .i64 0]
  rw [← hW2, World.size_alloc] at zz
  have hs2 : W2.heap.size = w.heap.size + 1 + 1 := by rw [hW2]; simp
  replace zz := Lib.hid zz
  replace hW2 := Lib.hid hW2
  replace q0 := Lib.hid q0
  go_enter Try.func89, Try.ntmps89
  go_wp2_with fail
  rw [← hW2.out]
  refine (nOwn_any l x z _ _ F W m _ hmF (by omega) hcF hnF hcW hnW (hFh.out.below B2) (hWh.out.below B2)).mono ?_
  rintro e w3 ⟨xF, cF, xW, cW, rfl, ⟨a0, a1, a2, a3, o1, o2, o3, o4, o5, hOF, hOW⟩, hb3⟩
  obtain ⟨g, gc, hg⟩ := own_someV hOW.1 hW1
  injection hg with hg1 hg2 hg3
  subst hg1 hg3
  have B3 := Below.via' B2 hb3
  have zz3 := Lib.hid (zz.out.kept hb3)
  have hOFh := Lib.hid hOF
  have hOWh := Lib.hid hOW
  have hsz := hb3.size
  have hn := Wb.new w3 37 #[.int .i64 l, .slice xF F.length cF, .slice (some ⟨g, 0, none⟩) W.length cW, .int .i64 m]
  replace hn := Lib.hid hn
  clear hOF hOW zz q0
  have hbA : Below w3.heap.size w3 (w3.alloc (.cells #[.int .i64 l, .slice xF F.length cF, .slice (some ⟨g, 0, none⟩) W.length cW, .int .i64 m] 37)) := (by repeat (first | exact Below.refl _ _ | assumption | refine Below.drew ?_ | refine below_drewN ?_ _ | refine Below.alloc' ?_ _ | (refine Below.setCell ?_ (by first | omega | (simp; done) | (simp; omega) | exact Below.size (by assumption) | exact Nat.le_trans (Below.size (by assumption)) (by simp)) _) | (refine Below.via' ?_ (by assumption)) | (refine Below.alloc ?_ (by first | omega | (simp; done) | (simp; omega) | exact Below.size (by assumption) | exact Nat.le_trans (Below.size (by assumption)) (by simp)) _) | (refine Below.via ?_ (by assumption) (by first | omega | (simp; done) | (simp; omega) | exact Below.size (by assumption) | exact Nat.le_trans (Below.size (by assumption)) (by simp)))))
  go_wp2
  go_loopw [11] (fun c wr => ∃ i : Nat, i ≤ S.length ∧ c = .int .i64 i ∧ OwR wr a2 a3 3 1 (.slice (some ⟨g, 0, none⟩) W.length cW) W.length (iC (kK (nwL S W) W i)) ∧ OwR wr a0 a1 3 1 (.slice xF F.length cF) F.length (iC F) ∧ Wb wr w3.heap.size 37 #[.int .i64 l, .slice xF F.length cF, .slice (some ⟨g, 0, none⟩) W.length cW, .int .i64 m] ∧ Wb wr (w.heap.size + 1) 37 #[.int .i64 0, .slice none 0 0, .slice none 0 0, .int .i64 0] ∧ Below w.heap.size w wr) (fun c _ => S.length - (intOf c).toNat)
  case atStart => exact ⟨0, by omega, by go_num, by rw [kK_zero]; exact hOWh.out.below hbA, hOFh.out.below hbA, hn.out, zz3.out.kept hbA, Below.via' B3 hbA⟩
  case round =>
    obtain ⟨i, hi, rfl, hOW, hOF, hT, hZ, hb⟩ := hrel
    by_cases hlt : i < S.length
    · obtain ⟨bl, off, nm, lv, rfl, hbl, hSi, ks0, ks1⟩ := (hSh.out.rd.below hb).var hlt
      have hlv := schB_lv hsh.out hSi
      obtain ⟨x0, hx0⟩ : ∃ x0, W[i]? = some x0 := ⟨_, List.getElem?_eq_getElem (by have := hlh.out; omega)⟩
      have hkg := kK_get (A := nwL S W) (W := W) (by rw [nwL_len hlh.out]; exact hi) hx0
      obtain ⟨u0, hu0, k0r⟩ := own_cell hOW.1 (j := i) (by have := hlh.out; omega)
      obtain rfl : u0 = .int .i64 x0 := Option.some.inj (hu0.symm.trans (iC_at hkg))
      have lgr := (own_lt hOW.1).2
      have hTv := hT
      have t2 := hT.read 2
      have lt0 := hT.inside
      have k0 := k0r
      have lg0 := lgr
      have hlt' : (i : Int) < (S.length : Int) := by omega
      have hi0 : (0 : Int) ≤ (i : Int) := by omega
      have hiW : (i : Int) < (W.length : Int) := by have := hlh.out; omega
      replace hOW := Lib.hid hOW
      replace hOF := Lib.hid hOF
      replace hT := Lib.hid hT
      replace hZ := Lib.hid hZ
      replace hTv := Lib.hid hTv
      clear hu0
      replace hkg := Lib.hid hkg
      replace hx0 := Lib.hid hx0
      replace hSi := Lib.hid hSi
      go_upto_region 5 with fail
      refine wp_region_held_drew (S := fun X => Below wr.heap.size wr X) (by kernel_rfl) (Below.drew (Below.refl _ _)) (fun hH => ?_)
      refine wpAnyH_take (i := 0) (v := ?_) rfl (by kernel_rfl) (by kernel_rfl) (by kernel_rfl) (fun _ _ _ h => h) (Or.inl ⟨by rfl, ?_⟩) (by assumption) ?_; rotate_left; · (intro wz hz; (have f2 := (hz.cell (p := ⟨w3.heap.size, 2, none⟩) lt0).trans t2; have f3 := (hz.cell (p := ⟨g, i, none⟩) lg0).trans k0); clear hz; go_simp; try with_reducible rfl); (try simp only [Act.put, List.getElem_toArray, List.getElem_cons_succ, List.getElem_cons_zero, List.setIfInBounds_toArray, List.set_cons_zero, List.set_cons_succ])
      refine wpAnyH_take (i := 1) (v := ?_) rfl (by kernel_rfl) (by kernel_rfl) (by kernel_rfl) (fun _ _ _ h => h) (Or.inl ⟨by rfl, ?_⟩) (by assumption) ?_; rotate_left; · (intro wz hz; (have f2 := (hz.cell (p := ⟨w3.heap.size, 2, none⟩) lt0).trans t2; have f3 := (hz.cell (p := ⟨g, i, none⟩) lg0).trans k0); clear hz; go_simp; try with_reducible rfl); (try simp only [Act.put, List.getElem_toArray, List.getElem_cons_succ, List.getElem_cons_zero, List.setIfInBounds_toArray, List.set_cons_zero, List.set_cons_succ])
      refine wpAnyH_take (i := 2) (v := ?_) rfl (by kernel_rfl) (by kernel_rfl) (by kernel_rfl) (fun _ _ _ h => h) (Or.inl ⟨by rfl, ?_⟩) (by assumption) ?_; rotate_left; · (intro wz hz; (have f2 := (hz.cell (p := ⟨w3.heap.size, 2, none⟩) lt0).trans t2; have f3 := (hz.cell (p := ⟨g, i, none⟩) lg0).trans k0); clear hz; go_simp; try with_reducible rfl); (try simp only [Act.put, List.getElem_toArray, List.getElem_cons_succ, List.getElem_cons_zero, List.setIfInBounds_toArray, List.set_cons_zero, List.set_cons_succ])
      refine wpAnyH_take (i := 3) (v := ?_) rfl (by kernel_rfl) (by kernel_rfl) (by kernel_rfl) (fun _ _ _ h => h) (Or.inl ⟨by rfl, ?_⟩) (by assumption) ?_; rotate_left; · (intro wz hz; (have f2 := (hz.cell (p := ⟨w3.heap.size, 2, none⟩) lt0).trans t2; have f3 := (hz.cell (p := ⟨g, i, none⟩) lg0).trans k0); clear hz; go_simp; try with_reducible rfl); (try simp only [Act.put, List.getElem_toArray, List.getElem_cons_succ, List.getElem_cons_zero, List.setIfInBounds_toArray, List.set_cons_zero, List.set_cons_succ])
      refine wpAnyH_take (i := 4) (v := ?_) rfl (by kernel_rfl) (by kernel_rfl) (by kernel_rfl) (fun _ _ _ h => h) (Or.inl ⟨by rfl, ?_⟩) (by assumption) ?_; rotate_left; · (intro wz hz; (have f2 := (hz.cell (p := ⟨w3.heap.size, 2, none⟩) lt0).trans t2; have f3 := (hz.cell (p := ⟨g, i, none⟩) lg0).trans k0); clear hz; go_simp; try with_reducible rfl); (try simp only [Act.put, List.getElem_toArray, List.getElem_cons_succ, List.getElem_cons_zero, List.setIfInBounds_toArray, List.set_cons_zero, List.set_cons_succ])
      refine wpAnyH_take (i := 5) (v := ?_) rfl (by kernel_rfl) (by kernel_rfl) (by kernel_rfl) (fun _ _ _ h => h) (Or.inl ⟨by rfl, ?_⟩) (by assumption) ?_; rotate_left; · (intro wz hz; (have f2 := (hz.cell (p := ⟨w3.heap.size, 2, none⟩) lt0).trans t2; have f3 := (hz.cell (p := ⟨g, i, none⟩) lg0).trans k0); clear hz; go_simp; try with_reducible rfl); (try simp only [Act.put, List.getElem_toArray, List.getElem_cons_succ, List.getElem_cons_zero, List.setIfInBounds_toArray, List.set_cons_zero, List.set_cons_succ])
      refine wpAnyH_take (i := 6) (v := ?_) rfl (by kernel_rfl) (by kernel_rfl) (by kernel_rfl) (fun _ _ _ h => h) (Or.inl ⟨by rfl, ?_⟩) (by assumption) ?_; rotate_left; · (intro wz hz; (have f2 := (hz.cell (p := ⟨w3.heap.size, 2, none⟩) lt0).trans t2; have f3 := (hz.cell (p := ⟨g, i, none⟩) lg0).trans k0); clear hz; go_simp; try with_reducible rfl); (try simp only [Act.put, List.getElem_toArray, List.getElem_cons_succ, List.getElem_cons_zero, List.setIfInBounds_toArray, List.set_cons_zero, List.set_cons_succ])
      refine wpAnyH_ready (rs := [7]) (by kernel_rfl) (by simp) (AllReadyH.cons rfl (fun K hK => ?_) AllReadyH.nil); go_simp
      refine (eFull_any _ _ S i _ _ _ hlv hSi.out (hSh.out.rd.below (Below.via' hb hH))).mono ?_
      rintro e w5 ⟨rfl, rfl⟩
      have h5 := hH
      refine hK.out _ _ h5 (fun _ => ?_)
      clear hK K
      (try simp only [Act.put, List.getElem_toArray, List.getElem_cons_succ, List.getElem_cons_zero, List.setIfInBounds_toArray, List.set_cons_zero, List.set_cons_succ])
      refine wpAnyH_take (i := 8) (v := ?_) rfl (by kernel_rfl) (by kernel_rfl) (by kernel_rfl) (fun _ _ _ h => h) (Or.inl ⟨by rfl, ?_⟩) (by assumption) ?_; rotate_left; · (intro wz hz; (skip); clear hz; go_simp; try with_reducible rfl); (try simp only [Act.put, List.getElem_toArray, List.getElem_cons_succ, List.getElem_cons_zero, List.setIfInBounds_toArray, List.set_cons_zero, List.set_cons_succ])
      refine wpAnyH_done (by kernel_rfl) ?_ _
      have B5 := h5
      have hOW5 := hOW.out.below B5
      have hOF5 := hOF.out.below B5
      have hT5 := hTv.out.kept h5
      have hZ5 := hZ.out.kept B5
      have hbw := Below.via' hb B5
      by_cases hfl : x0 = flZ lv
      · have hkd : (x0 == flZ lv) = true := by rw [beq_iff_eq]; exact hfl
        have hst := kK_step (A := nwL S W) (W := W) (nwL_yes hSi.out hx0.out hfl) (by have := hlh.out; omega)
        obtain ⟨u1, hu1, k1⟩ := own_cell hOW5.1 (j := i) (by have := hlh.out; omega)
        have k2 := hOW5.1.frozenAt i
        have hsr := hOW5.1.stored i (.int .i64 0)
        have t5 := hT5.read 2
        have hg5 := hOW5.2 g rfl
        have hrel2 : OwR (wr.drew.setCell ⟨g, i, none⟩ (.int .i64 0)) a2 a3 3 1 (.slice (some ⟨g, 0, none⟩) W.length cW) W.length (iC (kK (nwL S W) W (i + 1))) := by
          rw [← hst, ← iC_setN]
          exact hOW5.turn hsr.1
        have hF2 := hOF5.keep hsr.2 (fun k hk => by
          have e : g = k := by injection hk
          omega)
        have hT2 := wb_farN hT5 hsr.2 (fun hk => by
          have e : g = w3.heap.size := by injection hk
          omega)
        have hZ2 := wb_farN hZ5 hsr.2 (fun hk => by
          have e : g = w.heap.size + 1 := by injection hk
          omega)
        have hbw2 : Below w.heap.size w (wr.drew.setCell ⟨g, i, none⟩ (.int .i64 0)) := Below.setCell hbw (by show w.heap.size ≤ g; omega) _
        replace hrel2 := Lib.hid hrel2
        replace hF2 := Lib.hid hF2
        replace hT2 := Lib.hid hT2
        replace hZ2 := Lib.hid hZ2
        replace hsr := Lib.hid hsr
        replace hst := Lib.hid hst
        replace hfl := Lib.hid hfl
        replace hbw2 := Lib.hid hbw2
        clear hOW5 hOF5 hT5 hZ5 hu1
        go_wp2
        go_roundw
        case rel => exact ⟨i + 1, by omega, by go_num, hrel2.out, hF2.out, hT2.out, hZ2.out, hbw2.out⟩
        case measure => simp [intOf]; omega
      · have hkd : (x0 == flZ lv) = false := by rw [beq_eq_false_iff_ne]; exact hfl
        have hst := kK_same (nwL_no hSi.out hx0.out hfl) hx0.out
        rw [← hst] at hOW5
        replace hOW5 := Lib.hid hOW5
        replace hOF5 := Lib.hid hOF5
        replace hT5 := Lib.hid hT5
        replace hZ5 := Lib.hid hZ5
        replace hst := Lib.hid hst
        replace hfl := Lib.hid hfl
        go_wp2
        go_roundw
        case rel => exact ⟨i + 1, by omega, by go_num, hOW5.out, hOF5.out, hT5.out, hZ5.out, hbw⟩
        case measure => simp [intOf]; omega
    · have hij : i = S.length := by omega
      subst hij
      rw [kK_all (nwL_len hlh.out) hlh.out] at hOW
      have ta := hT.read 0; have tb := hT.read 1; have tc := hT.read 2; have td := hT.read 3; have te := hT.free 0; have tf := hT.free 1; have tg := hT.free 2; have th := hT.free 3
      have ya := hZ.read 0; have yb := hZ.read 1; have yc := hZ.read 2; have yd := hZ.read 3; have ye := hZ.free 0; have yf := hZ.free 1; have yg := hZ.free 2; have yh := hZ.free 3
      have yin := hZ.inside
      have tin := hT.inside
      replace hOW := Lib.hid hOW
      replace hOF := Lib.hid hOF
      have hl2 := nwL_len2 (S := S) hlh.out
      replace hl2 := Lib.hid hl2
      have hbs := hb.size
      go_wp2
      refine bodyPost_ret (v := .agg #[.int .i64 l, .slice xF F.length cF, .slice (some ⟨g, 0, none⟩) W.length cW, .int .i64 m]) (by simp [results, Try.results89, go_sem, *]) rfl ?_
      refine retT_of (W := W) hl2.out ⟨a0, a1, a2, a3, ?_, ?_, ?_, ?_, o5, ?_, ?_⟩ (by repeat (first | exact Below.refl _ _ | assumption | refine Below.drew ?_ | refine below_drewN ?_ _ | refine Below.alloc' ?_ _ | (refine Below.setCell ?_ (by first | omega | (simp; done) | (simp; omega) | exact Below.size (by assumption) | exact Nat.le_trans (Below.size (by assumption)) (by simp)) _) | (refine Below.via' ?_ (by assumption)) | (refine Below.alloc ?_ (by first | omega | (simp; done) | (simp; omega) | exact Below.size (by assumption) | exact Nat.le_trans (Below.size (by assumption)) (by simp)) _) | (refine Below.via ?_ (by assumption) (by first | omega | (simp; done) | (simp; omega) | exact Below.size (by assumption) | exact Nat.le_trans (Below.size (by assumption)) (by simp)))))
      omega
      simp; omega
      omega
      simp; omega
      repeat (refine OwR.set ?_ _ _ (Or.inl (by show w.heap.size + 1 < a0; omega)))
      exact hOF.out
      repeat (refine OwR.set ?_ _ _ (Or.inl (by show w.heap.size + 1 < a2; omega)))
      rw [hl2.out]
      exact hOW.out
end Go.Proofs.Ytpmbenedeakieaa

namespace Go.Proofs.Ytpmbenedeakieaa
open Go.RowKit
set_option maxRecDepth 100000

theorem OwY.set {w : World} {lo hi : Nat} {u v : Value} {F W : List Int} (h : OwY w lo hi u v F W) (p : Addr) (q : Value) (hp : p.block < lo) : OwY (w.setCell p q) lo hi u v F W :=
  h.keep (grown_setN w p q) (fun k hk => by obtain rfl := Option.some.inj hk; exact Or.inl hp)
set_option maxHeartbeats 4000000 in
theorem iNT_x (p y x z : Option Addr) (c c1 c2 c3 : Nat) (P : List Int) (S : List (ByteArray × Int)) (l : Int) (F W : List Int) (m : Int) (w : World) (hP : IIn w p P) (hS : SIn w y c1 S) (hT : TIn w x z F W) (hcF : F.length ≤ c2) (hnF : x = none → c2 = 0) (hcW : W.length ≤ c3) (hnW : z = none → c3 = 0) :
    Calls Try.prog 39 #[.agg #[.slice p P.length c], .slice y S.length c1, .agg #[.int .i64 l, .slice x F.length c2, .slice z W.length c3, .int .i64 m]] w (RetTB (ntR P S l F W m) (tgB P S l F W m) w) := by
  have hPh := Lib.hid hP
  have hSh := Lib.hid hS
  have hFh := Lib.hid hT.1
  have hWh := Lib.hid hT.2
  clear hP hS hT
  have hmF := hFh.out.1
  have hcFh := Lib.hid hcF
  have hnFh := Lib.hid hnF
  have hcWh := Lib.hid hcW
  have hnWh := Lib.hid hnW
  clear hcF hnF hcW hnW
  have p1 := Lib.hid (QB.new w p P.length c 33)
  have p2 := Lib.hid (TQ.new (w.alloc (.cells #[.slice p P.length c] 33)) l x F.length c2 z W.length c3 m 37)
  have p3 := Wb.new ((w.alloc (.cells #[.slice p P.length c] 33)).alloc (.cells #[.int .i64 l, .slice x F.length c2, .slice z W.length c3, .int .i64 m] 37)) 37 #[.int .i64 0, .slice none 0 0, .slice none 0 0, .int .i64 0]
  obtain ⟨w0, hw0⟩ : ∃ w0, w0 = ((w.alloc (.cells #[.slice p P.length c] 33)).alloc (.cells #[.int .i64 l, .slice x F.length c2, .slice z W.length c3, .int .i64 m] 37)).alloc (.cells #[.int .i64 0, .slice none 0 0, .slice none 0 0, .int .i64 0] 37) := ⟨_, rfl⟩
  have B0 : Below w.heap.size w w0 := by rw [hw0]; exact (by repeat (first | exact Below.refl _ _ | assumption | refine Below.drew ?_ | refine below_drewN ?_ _ | refine Below.alloc' ?_ _ | (refine Below.setCell ?_ (by first | omega | (simp; done) | (simp; omega) | exact Below.size (by assumption) | exact Nat.le_trans (Below.size (by assumption)) (by simp)) _) | (refine Below.via' ?_ (by assumption)) | (refine Below.alloc ?_ (by first | omega | (simp; done) | (simp; omega) | exact Below.size (by assumption) | exact Nat.le_trans (Below.size (by assumption)) (by simp)) _) | (refine Below.via ?_ (by assumption) (by first | omega | (simp; done) | (simp; omega) | exact Below.size (by assumption) | exact Nat.le_trans (Below.size (by assumption)) (by simp)))))
  have g0 : Hid (QB w0 w.heap.size p P.length c) := by
    rw [hw0]
    exact p1.out.below (show Below (w.alloc (.cells #[.slice p P.length c] 33)).heap.size (w.alloc (.cells #[.slice p P.length c] 33)) _ from (by repeat (first | exact Below.refl _ _ | assumption | refine Below.drew ?_ | refine below_drewN ?_ _ | refine Below.alloc' ?_ _ | (refine Below.setCell ?_ (by first | omega | (simp; done) | (simp; omega) | exact Below.size (by assumption) | exact Nat.le_trans (Below.size (by assumption)) (by simp)) _) | (refine Below.via' ?_ (by assumption)) | (refine Below.alloc ?_ (by first | omega | (simp; done) | (simp; omega) | exact Below.size (by assumption) | exact Nat.le_trans (Below.size (by assumption)) (by simp)) _) | (refine Below.via ?_ (by assumption) (by first | omega | (simp; done) | (simp; omega) | exact Below.size (by assumption) | exact Nat.le_trans (Below.size (by assumption)) (by simp))))))
  have t0 : Hid (TQ w0 (w.heap.size + 1) l x F.length c2 z W.length c3 m) := by
    have h0 := p2.out.below (show Below ((w.alloc (.cells #[.slice p P.length c] 33)).alloc (.cells #[.int .i64 l, .slice x F.length c2, .slice z W.length c3, .int .i64 m] 37)).heap.size ((w.alloc (.cells #[.slice p P.length c] 33)).alloc (.cells #[.int .i64 l, .slice x F.length c2, .slice z W.length c3, .int .i64 m] 37)) w0 from by rw [hw0]; exact (by repeat (first | exact Below.refl _ _ | assumption | refine Below.drew ?_ | refine below_drewN ?_ _ | refine Below.alloc' ?_ _ | (refine Below.setCell ?_ (by first | omega | (simp; done) | (simp; omega) | exact Below.size (by assumption) | exact Nat.le_trans (Below.size (by assumption)) (by simp)) _) | (refine Below.via' ?_ (by assumption)) | (refine Below.alloc ?_ (by first | omega | (simp; done) | (simp; omega) | exact Below.size (by assumption) | exact Nat.le_trans (Below.size (by assumption)) (by simp)) _) | (refine Below.via ?_ (by assumption) (by first | omega | (simp; done) | (simp; omega) | exact Below.size (by assumption) | exact Nat.le_trans (Below.size (by assumption)) (by simp))))))
    rw [World.size_alloc] at h0
    exact h0
  have r0 : Hid (Wb w0 (w.heap.size + 1 + 1) 37 #[.int .i64 0, .slice none 0 0, .slice none 0 0, .int .i64 0]) := by
    rw [← hw0] at p3
    simpa [Hid] using p3
  have z0 : w0.heap.size = w.heap.size + 1 + 1 + 1 := by rw [hw0]; simp
  clear p1 p2 p3
  go_enter Try.func39, Try.ntmps39
  go_wp2_with fail
  rw [← hw0]
  replace hw0 := Lib.hid hw0
  replace z0 := Lib.hid z0
  refine (isTb_any p y x z _ _ _ _ P S l F W m _ (hPh.out.below B0) (hSh.out.below B0) ⟨hFh.out.below B0, hWh.out.below B0⟩).mono ?_
  rintro e w1 ⟨rfl, hb1⟩
  have r1 := Lib.hid (r0.out.kept hb1)
  have B1 : Below w.heap.size w w1 := Below.via' B0 hb1
  have g1 := Lib.hid (g0.out.below hb1)
  have t1 := Lib.hid (t0.out.below hb1)
  obtain ⟨ka1, kb1, kc1⟩ := g1.out
  obtain ⟨ta1, tb1, tc1, td1, te1⟩ := t1.out
  try clear ka0 kb0 kc0 ta0 tb0 tc0 td0 te0
  clear hb1
  have hs1 := B1.size
  have hr1 := r1.out.inside
  cases htb : tgB P S l F W m
  · have ya := r1.out.read 0; have yb := r1.out.read 1; have yc := r1.out.read 2; have yd := r1.out.read 3; have ye := r1.out.free 0; have yf := r1.out.free 1; have yg := r1.out.free 2; have yh := r1.out.free 3
    go_wp2
    refine bodyPost_ret (v := .tuple #[.agg #[.int .i64 0, .slice none 0 0, .slice none 0 0, .int .i64 0], .bool false]) (by simp [results, Try.results39, go_sem, *]) rfl ?_
    rw [ntR_no htb]
    exact retTB_no htb (by repeat (first | exact Below.refl _ _ | assumption | refine Below.drew ?_ | refine below_drewN ?_ _ | refine Below.alloc' ?_ _ | (refine Below.setCell ?_ (by first | omega | (simp; done) | (simp; omega) | exact Below.size (by assumption) | exact Nat.le_trans (Below.size (by assumption)) (by simp)) _) | (refine Below.via' ?_ (by assumption)) | (refine Below.alloc ?_ (by first | omega | (simp; done) | (simp; omega) | exact Below.size (by assumption) | exact Nat.le_trans (Below.size (by assumption)) (by simp)) _) | (refine Below.via ?_ (by assumption) (by first | omega | (simp; done) | (simp; omega) | exact Below.size (by assumption) | exact Nat.le_trans (Below.size (by assumption)) (by simp)))))
  have htg := tg_iff.1 htb
  have htbh := Lib.hid htb
  have hsh := Lib.hid htg.s
  have hwl := Lib.hid (tw_len htg.w)
  clear htg htb
  go_wp2_with fail
  refine (normalTable_any y x z _ _ _ S l F W m _ hsh.out hwl.out (hSh.out.below B1) hmF hcFh.out hnFh.out hcWh.out hnWh.out (hFh.out.below B1).2.2 (hWh.out.below B1).2.2).mono ?_
  rintro e w2 ⟨x2, d2, z2, e2, rfl, ho2, hb2⟩
  have r2 := Lib.hid (r1.out.kept hb2)
  have B2 := Below.via' B1 hb2
  have hs2 := hb2.size
  replace ho2 := Lib.hid ho2
  have ya := r2.out.read 0; have yb := r2.out.read 1; have yc := r2.out.read 2; have yd := r2.out.read 3; have ye := r2.out.free 0; have yf := r2.out.free 1; have yg := r2.out.free 2; have yh := r2.out.free 3
  have yin := r2.out.inside
  clear hb2 ka1 kb1 kc1 ta1 tb1 tc1 td1 te1
  go_wp2
  refine bodyPost_ret (v := .tuple #[.agg #[.int .i64 l, .slice x2 F.length d2, .slice z2 (nwL S W).length e2, .int .i64 m], .bool true]) (by simp [results, Try.results39, go_sem, *]) rfl ?_
  rw [ntR_yes htbh.out]
  refine ⟨_, _, _, _, ret_t (by rw [htbh.out]), OwY.more (lo := w1.heap.size) (hi := w2.heap.size) ?_ (by omega) (by simp), (by repeat (first | exact Below.refl _ _ | assumption | refine Below.drew ?_ | refine below_drewN ?_ _ | refine Below.alloc' ?_ _ | (refine Below.setCell ?_ (by first | omega | (simp; done) | (simp; omega) | exact Below.size (by assumption) | exact Nat.le_trans (Below.size (by assumption)) (by simp)) _) | (refine Below.via' ?_ (by assumption)) | (refine Below.alloc ?_ (by first | omega | (simp; done) | (simp; omega) | exact Below.size (by assumption) | exact Nat.le_trans (Below.size (by assumption)) (by simp)) _) | (refine Below.via ?_ (by assumption) (by first | omega | (simp; done) | (simp; omega) | exact Below.size (by assumption) | exact Nat.le_trans (Below.size (by assumption)) (by simp)))))⟩
  repeat (refine OwY.set ?_ _ _ (by show w.heap.size + 1 + 1 < w1.heap.size; omega))
  exact ho2.out
set_option maxHeartbeats 4000000 in
theorem sNT_x (p y x z : Option Addr) (c c1 c2 c3 : Nat) (P : List Int) (S : List (ByteArray × Int)) (l : Int) (F W : List Int) (m : Int) (w : World) (hP : IIn w p P) (hS : SIn w y c1 S) (hT : TIn w x z F W) (hcF : F.length ≤ c2) (hnF : x = none → c2 = 0) (hcW : W.length ≤ c3) (hnW : z = none → c3 = 0) :
    Calls Try.prog 38 #[.agg #[.slice p P.length c], .slice y S.length c1, .agg #[.int .i64 l, .slice x F.length c2, .slice z W.length c3, .int .i64 m]] w (RetTB (ntR P S l F W m) (tgB P S l F W m) w) := by
  have hPh := Lib.hid hP
  have hSh := Lib.hid hS
  have hFh := Lib.hid hT.1
  have hWh := Lib.hid hT.2
  clear hP hS hT
  have hmF := hFh.out.1
  have hcFh := Lib.hid hcF
  have hnFh := Lib.hid hnF
  have hcWh := Lib.hid hcW
  have hnWh := Lib.hid hnW
  clear hcF hnF hcW hnW
  have p1 := Lib.hid (QB.new w p P.length c 33)
  have p2 := Lib.hid (TQ.new (w.alloc (.cells #[.slice p P.length c] 33)) l x F.length c2 z W.length c3 m 37)
  have p3 := Wb.new ((w.alloc (.cells #[.slice p P.length c] 33)).alloc (.cells #[.int .i64 l, .slice x F.length c2, .slice z W.length c3, .int .i64 m] 37)) 37 #[.int .i64 0, .slice none 0 0, .slice none 0 0, .int .i64 0]
  obtain ⟨w0, hw0⟩ : ∃ w0, w0 = ((w.alloc (.cells #[.slice p P.length c] 33)).alloc (.cells #[.int .i64 l, .slice x F.length c2, .slice z W.length c3, .int .i64 m] 37)).alloc (.cells #[.int .i64 0, .slice none 0 0, .slice none 0 0, .int .i64 0] 37) := ⟨_, rfl⟩
  have B0 : Below w.heap.size w w0 := by rw [hw0]; exact (by repeat (first | exact Below.refl _ _ | assumption | refine Below.drew ?_ | refine below_drewN ?_ _ | refine Below.alloc' ?_ _ | (refine Below.setCell ?_ (by first | omega | (simp; done) | (simp; omega) | exact Below.size (by assumption) | exact Nat.le_trans (Below.size (by assumption)) (by simp)) _) | (refine Below.via' ?_ (by assumption)) | (refine Below.alloc ?_ (by first | omega | (simp; done) | (simp; omega) | exact Below.size (by assumption) | exact Nat.le_trans (Below.size (by assumption)) (by simp)) _) | (refine Below.via ?_ (by assumption) (by first | omega | (simp; done) | (simp; omega) | exact Below.size (by assumption) | exact Nat.le_trans (Below.size (by assumption)) (by simp)))))
  have g0 : Hid (QB w0 w.heap.size p P.length c) := by
    rw [hw0]
    exact p1.out.below (show Below (w.alloc (.cells #[.slice p P.length c] 33)).heap.size (w.alloc (.cells #[.slice p P.length c] 33)) _ from (by repeat (first | exact Below.refl _ _ | assumption | refine Below.drew ?_ | refine below_drewN ?_ _ | refine Below.alloc' ?_ _ | (refine Below.setCell ?_ (by first | omega | (simp; done) | (simp; omega) | exact Below.size (by assumption) | exact Nat.le_trans (Below.size (by assumption)) (by simp)) _) | (refine Below.via' ?_ (by assumption)) | (refine Below.alloc ?_ (by first | omega | (simp; done) | (simp; omega) | exact Below.size (by assumption) | exact Nat.le_trans (Below.size (by assumption)) (by simp)) _) | (refine Below.via ?_ (by assumption) (by first | omega | (simp; done) | (simp; omega) | exact Below.size (by assumption) | exact Nat.le_trans (Below.size (by assumption)) (by simp))))))
  have t0 : Hid (TQ w0 (w.heap.size + 1) l x F.length c2 z W.length c3 m) := by
    have h0 := p2.out.below (show Below ((w.alloc (.cells #[.slice p P.length c] 33)).alloc (.cells #[.int .i64 l, .slice x F.length c2, .slice z W.length c3, .int .i64 m] 37)).heap.size ((w.alloc (.cells #[.slice p P.length c] 33)).alloc (.cells #[.int .i64 l, .slice x F.length c2, .slice z W.length c3, .int .i64 m] 37)) w0 from by rw [hw0]; exact (by repeat (first | exact Below.refl _ _ | assumption | refine Below.drew ?_ | refine below_drewN ?_ _ | refine Below.alloc' ?_ _ | (refine Below.setCell ?_ (by first | omega | (simp; done) | (simp; omega) | exact Below.size (by assumption) | exact Nat.le_trans (Below.size (by assumption)) (by simp)) _) | (refine Below.via' ?_ (by assumption)) | (refine Below.alloc ?_ (by first | omega | (simp; done) | (simp; omega) | exact Below.size (by assumption) | exact Nat.le_trans (Below.size (by assumption)) (by simp)) _) | (refine Below.via ?_ (by assumption) (by first | omega | (simp; done) | (simp; omega) | exact Below.size (by assumption) | exact Nat.le_trans (Below.size (by assumption)) (by simp))))))
    rw [World.size_alloc] at h0
    exact h0
  have r0 : Hid (Wb w0 (w.heap.size + 1 + 1) 37 #[.int .i64 0, .slice none 0 0, .slice none 0 0, .int .i64 0]) := by
    rw [← hw0] at p3
    simpa [Hid] using p3
  have z0 : w0.heap.size = w.heap.size + 1 + 1 + 1 := by rw [hw0]; simp
  clear p1 p2 p3
  go_enter Try.func38, Try.ntmps38
  go_wp2_with fail
  rw [← hw0]
  replace hw0 := Lib.hid hw0
  replace z0 := Lib.hid z0
  refine (uGood_any p y x z _ _ _ _ P S l m F W _ (hPh.out.below B0) (hSh.out.below B0) ⟨hFh.out.below B0, hWh.out.below B0⟩).mono ?_
  rintro e w1 ⟨rfl, hb1⟩
  have r1 := Lib.hid (r0.out.kept hb1)
  have B1 : Below w.heap.size w w1 := Below.via' B0 hb1
  have g1 := Lib.hid (g0.out.below hb1)
  have t1 := Lib.hid (t0.out.below hb1)
  obtain ⟨ka1, kb1, kc1⟩ := g1.out
  obtain ⟨ta1, tb1, tc1, td1, te1⟩ := t1.out
  try clear ka0 kb0 kc0 ta0 tb0 tc0 td0 te0
  clear hb1
  have hs1 := B1.size
  have hr1 := r1.out.inside
  cases htb : tgB P S l F W m
  · have ya := r1.out.read 0; have yb := r1.out.read 1; have yc := r1.out.read 2; have yd := r1.out.read 3; have ye := r1.out.free 0; have yf := r1.out.free 1; have yg := r1.out.free 2; have yh := r1.out.free 3
    go_wp2
    refine bodyPost_ret (v := .tuple #[.agg #[.int .i64 0, .slice none 0 0, .slice none 0 0, .int .i64 0], .bool false]) (by simp [results, Try.results38, go_sem, *]) rfl ?_
    rw [ntR_no htb]
    exact retTB_no htb (by repeat (first | exact Below.refl _ _ | assumption | refine Below.drew ?_ | refine below_drewN ?_ _ | refine Below.alloc' ?_ _ | (refine Below.setCell ?_ (by first | omega | (simp; done) | (simp; omega) | exact Below.size (by assumption) | exact Nat.le_trans (Below.size (by assumption)) (by simp)) _) | (refine Below.via' ?_ (by assumption)) | (refine Below.alloc ?_ (by first | omega | (simp; done) | (simp; omega) | exact Below.size (by assumption) | exact Nat.le_trans (Below.size (by assumption)) (by simp)) _) | (refine Below.via ?_ (by assumption) (by first | omega | (simp; done) | (simp; omega) | exact Below.size (by assumption) | exact Nat.le_trans (Below.size (by assumption)) (by simp)))))
  have htg := tg_iff.1 htb
  have htbh := Lib.hid htb
  have hsh := Lib.hid htg.s
  have hwl := Lib.hid (tw_len htg.w)
  clear htg htb
  go_wp2_with fail
  refine (nNormal_any y x z _ _ _ S l F W m _ hsh.out hwl.out (hSh.out.below B1) hmF hcFh.out hnFh.out hcWh.out hnWh.out (hFh.out.below B1).2.2 (hWh.out.below B1).2.2).mono ?_
  rintro e w2 ⟨x2, d2, z2, e2, rfl, ho2, hb2⟩
  have r2 := Lib.hid (r1.out.kept hb2)
  have B2 := Below.via' B1 hb2
  have hs2 := hb2.size
  replace ho2 := Lib.hid ho2
  have ya := r2.out.read 0; have yb := r2.out.read 1; have yc := r2.out.read 2; have yd := r2.out.read 3; have ye := r2.out.free 0; have yf := r2.out.free 1; have yg := r2.out.free 2; have yh := r2.out.free 3
  have yin := r2.out.inside
  clear hb2 ka1 kb1 kc1 ta1 tb1 tc1 td1 te1
  go_wp2
  refine bodyPost_ret (v := .tuple #[.agg #[.int .i64 l, .slice x2 F.length d2, .slice z2 (nwL S W).length e2, .int .i64 m], .bool true]) (by simp [results, Try.results38, go_sem, *]) rfl ?_
  rw [ntR_yes htbh.out]
  refine ⟨_, _, _, _, ret_t (by rw [htbh.out]), OwY.more (lo := w1.heap.size) (hi := w2.heap.size) ?_ (by omega) (by simp), (by repeat (first | exact Below.refl _ _ | assumption | refine Below.drew ?_ | refine below_drewN ?_ _ | refine Below.alloc' ?_ _ | (refine Below.setCell ?_ (by first | omega | (simp; done) | (simp; omega) | exact Below.size (by assumption) | exact Nat.le_trans (Below.size (by assumption)) (by simp)) _) | (refine Below.via' ?_ (by assumption)) | (refine Below.alloc ?_ (by first | omega | (simp; done) | (simp; omega) | exact Below.size (by assumption) | exact Nat.le_trans (Below.size (by assumption)) (by simp)) _) | (refine Below.via ?_ (by assumption) (by first | omega | (simp; done) | (simp; omega) | exact Below.size (by assumption) | exact Nat.le_trans (Below.size (by assumption)) (by simp)))))⟩
  repeat (refine OwY.set ?_ _ _ (by show w.heap.size + 1 + 1 < w1.heap.size; omega))
  exact ho2.out
end Go.Proofs.Ytpmbenedeakieaa
