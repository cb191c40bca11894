/-
  The laws' helpers on cubes (a struct of two slices of integers): the size, a copy, a comparison, marks and their test; a cube that comes in. Lists of lists of integers: a comparison, marks and their test.
-/
import Derived.Test.YtnmpigedhpdenaaCbO
import Derived.Test.YtnmpigedhpdenaaEdN
namespace Go.Proofs.Ytnmpigedhpdenaa
open Go.ChangeShapes Go.WideShapes Go.ChangeAt Go.RowKit
open Go.Joins Go.Deep
set_option maxRecDepth 100000

theorem CQ.off {w w' : World} {g : Nat} {x : Option Addr} {n c : Nat} {y : Option Addr} {k d lo hi : Nat} (h : CQ w g x n c y k d) (hg : Off lo hi w w') (hne : g < lo ∨ hi ≤ g) : CQ w' g x n c y k d := h.of_block (hg.block g h.2.2 hne) hg.size
/-- A cube's two lists that are owned: apart from each other. -/
def OwC (w : World) (lo hi : Nat) (u v : Value) (Z C : List Int) : Prop := ∃ mid, lo ≤ mid ∧ mid ≤ hi ∧ OwR w lo mid 3 1 u Z.length (iC Z) ∧ OwR w mid hi 3 1 v C.length (iC C)
section
variable {w w' : World} {lo hi : Nat} {u v : Value} {Z C : List Int}
theorem OwC.below (h : OwC w lo hi u v Z C) (hb : Below w.heap.size w w') : OwC w' lo hi u v Z C := by
  obtain ⟨mid, h1, h2, a, b⟩ := h
  exact ⟨mid, h1, h2, a.below hb, b.below hb⟩
theorem OwC.off {lo2 hi2 : Nat} (h : OwC w lo hi u v Z C) (hg : Off lo2 hi2 w w') (hne : hi ≤ lo2 ∨ hi2 ≤ lo) : OwC w' lo hi u v Z C := by
  obtain ⟨mid, h1, h2, a, b⟩ := h
  exact ⟨mid, h1, h2, a.off hg (by omega), b.off hg (by omega)⟩
theorem OwC.keep {r : Option Nat} (h : OwC w lo hi u v Z C) (hg : w.grownBy w' r) (hr : ∀ k, r = some k → k < lo ∨ hi ≤ k) : OwC w' lo hi u v Z C := by
  obtain ⟨mid, h1, h2, a, b⟩ := h
  exact ⟨mid, h1, h2, a.keep hg (fun k hk => by have := hr k hk; omega), b.keep hg (fun k hk => by have := hr k hk; omega)⟩
end
theorem CIn.of_owC {w : World} {lo hi : Nat} {x y : Option Addr} {c d : Nat} {Z C : List Int} (h : OwC w lo hi (.slice x Z.length c) (.slice y C.length d) Z C) (hZ : Z.length ≤ 1048576) (hC : C.length ≤ 1048576) (hnZ : ∀ n ∈ Z, IsI64 n) (hnC : ∀ n ∈ C, IsI64 n) : CIn w x y Z C := by
  obtain ⟨mid, h1, h2, a, b⟩ := h
  exact ⟨⟨hZ, hnZ, a.rd⟩, ⟨hC, hnC, b.rd⟩⟩

theorem CIn.rds {w : World} {x y : Option Addr} {Z C : List Int} (h : CIn w x y Z C) : Rd w x (iC Z) ∧ Rd w y (iC C) := ⟨h.1.2.2, h.2.2.2⟩
theorem tot_eMC (T : List PR) : tot T = ((eM T).map List.length).sum := by
  unfold tot eM
  rw [List.map_map]
  rfl
theorem sum_le30 : ∀ (L : List (List Int)), (∀ l ∈ L, l.length ≤ 30) → (L.map List.length).sum ≤ 30 * L.length
  | [], _ => by simp
  | l :: r, h => by
    have h1 := sum_le30 r (fun a ha => h a (by simp [ha]))
    have h2 := h l (by simp)
    simp only [List.map_cons, List.sum_cons, List.length_cons]
    omega
theorem pp_tot (Z : List Int) (i : Int) : (ppL Z i).length ≤ 1048576 ∧ ((ppL Z i).map List.length).sum ≤ 1048576 := by
  cases h : ppB Z i
  · rw [ppL_no h]; simp
  · rw [ppL_yes h]
    have hz : okZ Z = true := by
      unfold ppB at h
      rw [Bool.and_eq_true] at h
      exact (cs_get h.1).1
    have h1 := ptU_len Z i Z.length
    have h2 := okZ_len hz
    have h3 := sum_le30 (ptZ Z i) (fun l hl => (ptU_mem hz hl).1)
    have h4 : (ptZ Z i).length ≤ 4 := by
      have : (ptZ Z i).length ≤ Z.length := h1
      omega
    omega

/-- A size, in words that go on. -/
def SzC (left : Int) (len : Nat) (w : World) (e : Ending) (w' : World) : Prop := ∃ r : Int, e = .returned (.int .i64 r) ∧ r ≤ left ∧ -1 ≤ r ∧ (0 ≤ r → r + len = left) ∧ Below w.heap.size w w'
theorem szCube_x (x : Option Addr) (n c : Nat) (y : Option Addr) (k d : Nat) (left : Int) (w : World) (hl : 0 ≤ left) (h : left ≤ 1048576) (hn : n ≤ 9223372036854775807) (hk : k ≤ 9223372036854775807) :
    Calls Try.prog 14 #[.agg #[.slice x n c, .slice y k d], .int .i64 left] w (SzC left (n + k) w) := by
  have hb := szZ_bd left n hl
  have e1 : szZ left n = -1 ∧ left < n ∨ szZ left n = left - n ∧ 0 ≤ left - n := by unfold szZ; split <;> omega
  by_cases hn1 : szZ left n < 0
  · go_enter Try.func14, Try.ntmps14
    go_wp2_with (go_at_call 54; refine (szIntS_any _ _ _ _ _ hl h hn).mono ?_; rintro e w1 ⟨rfl, rfl⟩)
    go_ret
    exact ⟨-1, rfl, by omega, by omega, by omega, (by repeat (first | exact Below.refl _ _ | assumption | refine Below.drew ?_ | refine below_drewN ?_ _ | refine Below.alloc' ?_ _ | (refine Below.setCell ?_ (by first | omega | (simp; done) | (simp; omega) | exact Below.size (by assumption) | exact Nat.le_trans (Below.size (by assumption)) (by simp)) _) | (refine Below.via' ?_ (by assumption)) | (refine Below.alloc ?_ (by first | omega | (simp; done) | (simp; omega) | exact Below.size (by assumption) | exact Nat.le_trans (Below.size (by assumption)) (by simp)) _) | (refine Below.via ?_ (by assumption) (by first | omega | (simp; done) | (simp; omega) | exact Below.size (by assumption) | exact Nat.le_trans (Below.size (by assumption)) (by simp)))))⟩
  have hl2 : 0 ≤ szZ left n := by omega
  have h2 : szZ left n ≤ 1048576 := by omega
  have e2 : szZ (szZ left n) k = -1 ∧ szZ left n < k ∨ szZ (szZ left n) k = szZ left n - k ∧ 0 ≤ szZ left n - k := by unfold szZ at hl2 ⊢; split <;> omega
  by_cases hn2 : szZ (szZ left n) k < 0
  · go_enter Try.func14, Try.ntmps14
    go_wp2_with fail
    refine (szIntS_any _ _ _ _ _ hl h hn).mono ?_
    rintro e w1 ⟨rfl, rfl⟩
    go_wp2_with fail
    refine (szIntS_any _ _ _ _ _ hl2 h2 hk).mono ?_
    rintro e w2 ⟨rfl, rfl⟩
    go_wp2
    go_ret
    exact ⟨-1, rfl, by omega, by omega, by omega, (by repeat (first | exact Below.refl _ _ | assumption | refine Below.drew ?_ | refine below_drewN ?_ _ | refine Below.alloc' ?_ _ | (refine Below.setCell ?_ (by first | omega | (simp; done) | (simp; omega) | exact Below.size (by assumption) | exact Nat.le_trans (Below.size (by assumption)) (by simp)) _) | (refine Below.via' ?_ (by assumption)) | (refine Below.alloc ?_ (by first | omega | (simp; done) | (simp; omega) | exact Below.size (by assumption) | exact Nat.le_trans (Below.size (by assumption)) (by simp)) _) | (refine Below.via ?_ (by assumption) (by first | omega | (simp; done) | (simp; omega) | exact Below.size (by assumption) | exact Nat.le_trans (Below.size (by assumption)) (by simp)))))⟩
  · go_enter Try.func14, Try.ntmps14
    go_wp2_with fail
    refine (szIntS_any _ _ _ _ _ hl h hn).mono ?_
    rintro e w1 ⟨rfl, rfl⟩
    go_wp2_with fail
    refine (szIntS_any _ _ _ _ _ hl2 h2 hk).mono ?_
    rintro e w2 ⟨rfl, rfl⟩
    go_wp2
    go_ret
    exact ⟨_, rfl, by omega, by omega, fun _ => by omega, (by repeat (first | exact Below.refl _ _ | assumption | refine Below.drew ?_ | refine below_drewN ?_ _ | refine Below.alloc' ?_ _ | (refine Below.setCell ?_ (by first | omega | (simp; done) | (simp; omega) | exact Below.size (by assumption) | exact Nat.le_trans (Below.size (by assumption)) (by simp)) _) | (refine Below.via' ?_ (by assumption)) | (refine Below.alloc ?_ (by first | omega | (simp; done) | (simp; omega) | exact Below.size (by assumption) | exact Nat.le_trans (Below.size (by assumption)) (by simp)) _) | (refine Below.via ?_ (by assumption) (by first | omega | (simp; done) | (simp; omega) | exact Below.size (by assumption) | exact Nat.le_trans (Below.size (by assumption)) (by simp)))))⟩

/-- A cube that the law has copied. -/
def CuPost (Z C : List Int) (w : World) (e : Ending) (w' : World) : Prop :=
  ∃ g f, e = .returned (.agg #[.slice (some ⟨g, 0, none⟩) Z.length Z.length, .slice (some ⟨f, 0, none⟩) C.length C.length]) ∧ OwC w' w.heap.size w'.heap.size (.slice (some ⟨g, 0, none⟩) Z.length Z.length) (.slice (some ⟨f, 0, none⟩) C.length C.length) Z C ∧ Below w.heap.size w w'
set_option maxHeartbeats 2000000 in
theorem toCube_any (x y : Option Addr) (c d : Nat) (Z C : List Int) (w : World) (hmF : Z.length ≤ 1048576) (hmW : C.length ≤ 1048576) (hF : Rd w x (iC Z)) (hW : Rd w y (iC C)) :
    Calls Try.prog 16 #[.agg #[.slice x Z.length c, .slice y C.length d]] w (CuPost Z C w) := by
  have hFh := Lib.hid hF
  have hWh := Lib.hid hW
  clear hF hW
  have hq := Lib.hid (CQ.new w x Z.length c y C.length d 24)
  go_enter Try.func16, Try.ntmps16
  go_wp2_with fail
  refine (toIntS_any _ _ _ _ hmF (hFh.out.below (by exact (by repeat (first | exact Below.refl _ _ | assumption | refine Below.drew ?_ | refine below_drewN ?_ _ | refine Below.alloc' ?_ _ | (refine Below.setCell ?_ (by first | omega | (simp; done) | (simp; omega) | exact Below.size (by assumption) | exact Nat.le_trans (Below.size (by assumption)) (by simp)) _) | (refine Below.via' ?_ (by assumption)) | (refine Below.alloc ?_ (by first | omega | (simp; done) | (simp; omega) | exact Below.size (by assumption) | exact Nat.le_trans (Below.size (by assumption)) (by simp)) _) | (refine Below.via ?_ (by assumption) (by first | omega | (simp; done) | (simp; omega) | exact Below.size (by assumption) | exact Nat.le_trans (Below.size (by assumption)) (by simp)))))))).mono ?_
  rintro e w1 ⟨rfl, ho1, hb1⟩
  obtain ⟨hcl1, hfr1⟩ := bcell hb1
  have hz1 := hb1.size; (try simp at hz1); (try (have hly1 := Nat.lt_of_succ_le hz1)); (try (have hlx1 := Nat.lt_of_succ_lt hly1)); (try (have hlw1 := Nat.lt_of_succ_lt hlx1)); (try (have hle1 := Nat.le_of_lt hly1))
  have hoh := Lib.hid ho1
  clear ho1
  have B1 : Below w.heap.size w w1 := (by repeat (first | exact Below.refl _ _ | assumption | refine Below.drew ?_ | refine below_drewN ?_ _ | refine Below.alloc' ?_ _ | (refine Below.setCell ?_ (by first | omega | (simp; done) | (simp; omega) | exact Below.size (by assumption) | exact Nat.le_trans (Below.size (by assumption)) (by simp)) _) | (refine Below.via' ?_ (by assumption)) | (refine Below.alloc ?_ (by first | omega | (simp; done) | (simp; omega) | exact Below.size (by assumption) | exact Nat.le_trans (Below.size (by assumption)) (by simp)) _) | (refine Below.via ?_ (by assumption) (by first | omega | (simp; done) | (simp; omega) | exact Below.size (by assumption) | exact Nat.le_trans (Below.size (by assumption)) (by simp)))))
  have hb1 := Lib.hid hb1
  go_wp2_with fail
  refine (toIntS_any _ _ _ _ hmW (hWh.out.below (by exact (by repeat (first | exact Below.refl _ _ | assumption | refine Below.drew ?_ | refine below_drewN ?_ _ | refine Below.alloc' ?_ _ | (refine Below.setCell ?_ (by first | omega | (simp; done) | (simp; omega) | exact Below.size (by assumption) | exact Nat.le_trans (Below.size (by assumption)) (by simp)) _) | (refine Below.via' ?_ (by assumption)) | (refine Below.alloc ?_ (by first | omega | (simp; done) | (simp; omega) | exact Below.size (by assumption) | exact Nat.le_trans (Below.size (by assumption)) (by simp)) _) | (refine Below.via ?_ (by assumption) (by first | omega | (simp; done) | (simp; omega) | exact Below.size (by assumption) | exact Nat.le_trans (Below.size (by assumption)) (by simp)))))))).mono ?_
  rintro e w2 ⟨rfl, ho2, hb2⟩
  simp only [World.size_setCell] at ho2
  obtain ⟨hcl2, hfr2⟩ := bcell hb2
  have hz2 := hb2.size
  simp at hz2
  have hl2 : w.heap.size + 1 + 1 < w2.heap.size := by omega
  have hl3 : w.heap.size + 1 < w2.heap.size := by omega
  have hl4 : w.heap.size < w2.heap.size := by omega
  have hlt2 : w1.heap.size < w2.heap.size := (own_lt ho2).2
  have ho2h := Lib.hid ho2
  clear ho2
  have B2 : Below w.heap.size w w2 := (by repeat (first | exact Below.refl _ _ | assumption | refine Below.drew ?_ | refine below_drewN ?_ _ | refine Below.alloc' ?_ _ | (refine Below.setCell ?_ (by first | omega | (simp; done) | (simp; omega) | exact Below.size (by assumption) | exact Nat.le_trans (Below.size (by assumption)) (by simp)) _) | (refine Below.via' ?_ (by assumption)) | (refine Below.alloc ?_ (by first | omega | (simp; done) | (simp; omega) | exact Below.size (by assumption) | exact Nat.le_trans (Below.size (by assumption)) (by simp)) _) | (refine Below.via ?_ (by assumption) (by first | omega | (simp; done) | (simp; omega) | exact Below.size (by assumption) | exact Nat.le_trans (Below.size (by assumption)) (by simp)))))
  have ho3 : w1.ownsRow (w.heap.size + 1 + 1 + 1) 3 1 (.slice (some ⟨w.heap.size + 1 + 1 + 1, 0, none⟩) Z.length Z.length) Z.length (iC Z) := by simpa using hoh.out
  have ho4 : w2.ownsRow (w.heap.size + 1 + 1 + 1) 3 1 (.slice (some ⟨w.heap.size + 1 + 1 + 1, 0, none⟩) Z.length Z.length) Z.length (iC Z) := own_below (ownsRow_setCell_below ho3 (by simp) _) hb2
  have ho4 := Lib.hid ho4
  have hz1' : w.heap.size + 1 + 1 + 1 < w1.heap.size := (own_lt ho3).2
  clear ho3 hoh
  go_wp2
  refine bodyPost_ret (v := .agg #[.slice (some ⟨w.heap.size + 1 + 1 + 1, 0, none⟩) Z.length Z.length, .slice (some ⟨w1.heap.size, 0, none⟩) C.length C.length]) (by simp [results, Try.results16, go_sem, *]) rfl ⟨_, _, rfl, ⟨w1.heap.size, by omega, by simp; omega, ⟨?_, ?_⟩, ⟨?_, ?_⟩⟩, ?_⟩
  · refine own_more (base := w.heap.size + 1 + 1 + 1) ?_ (by omega)
    repeat (refine ownsRow_setCell_below ?_ (by simp; try omega) _)
    exact ho4.out
  · intro k hk
    obtain rfl : w.heap.size + 1 + 1 + 1 = k := by injection hk
    omega
  · repeat (refine ownsRow_setCell_below ?_ (by simp; try omega) _)
    exact ho2h.out
  · intro k hk
    obtain rfl : w1.heap.size = k := by injection hk
    simp only [World.size_setCell]
    exact ⟨Nat.le_refl _, hlt2⟩
  · repeat (refine Below.setCell ?_ (by simp; try omega) _)
    exact B2

theorem eqCube_any (x y x2 y2 : Option Addr) {c d c2 d2 : Nat} (Z C : List Int) (w : World) (hmF : Z.length ≤ 9223372036854775807) (hmW : C.length ≤ 9223372036854775807) (hX : Rd w x (iC Z) ∧ Rd w y (iC C)) (hY : Rd w x2 (iC Z) ∧ Rd w y2 (iC C)) :
    Calls Try.prog 18 #[.agg #[.slice x Z.length c, .slice y C.length d], .agg #[.slice x2 Z.length c2, .slice y2 C.length d2]] w fun e w' => e = .returned (.bool true) ∧ Below w.heap.size w w' := by
  have hXh := Lib.hid hX
  have hYh := Lib.hid hY
  have q1 := Lib.hid (CQ.new w x Z.length c y C.length d 27)
  have q2 := Lib.hid (CQ.new (w.alloc (.cells #[.slice x Z.length c, .slice y C.length d] 27)) x2 Z.length c2 y2 C.length d2 27)
  have q1 := Lib.hid (q1.out.below (show Below (w.alloc (.cells #[.slice x Z.length c, .slice y C.length d] 27)).heap.size (w.alloc (.cells #[.slice x Z.length c, .slice y C.length d] 27)) ((w.alloc (.cells #[.slice x Z.length c, .slice y C.length d] 27)).alloc (.cells #[.slice x2 Z.length c2, .slice y2 C.length d2] 27)) from (by repeat (first | exact Below.refl _ _ | assumption | refine Below.drew ?_ | refine below_drewN ?_ _ | refine Below.alloc' ?_ _ | (refine Below.setCell ?_ (by first | omega | (simp; done) | (simp; omega) | exact Below.size (by assumption) | exact Nat.le_trans (Below.size (by assumption)) (by simp)) _) | (refine Below.via' ?_ (by assumption)) | (refine Below.alloc ?_ (by first | omega | (simp; done) | (simp; omega) | exact Below.size (by assumption) | exact Nat.le_trans (Below.size (by assumption)) (by simp)) _) | (refine Below.via ?_ (by assumption) (by first | omega | (simp; done) | (simp; omega) | exact Below.size (by assumption) | exact Nat.le_trans (Below.size (by assumption)) (by simp)))))))
  replace q2 := q2.out
  rw [World.size_alloc] at q2
  replace q2 := Lib.hid q2
  clear hX hY
  go_enter Try.func18, Try.ntmps18
  go_wp2_with fail
  refine (eqIntS_any _ _ _ _ _ _ hmF (hXh.out.1.below (by exact (by repeat (first | exact Below.refl _ _ | assumption | refine Below.drew ?_ | refine below_drewN ?_ _ | refine Below.alloc' ?_ _ | (refine Below.setCell ?_ (by first | omega | (simp; done) | (simp; omega) | exact Below.size (by assumption) | exact Nat.le_trans (Below.size (by assumption)) (by simp)) _) | (refine Below.via' ?_ (by assumption)) | (refine Below.alloc ?_ (by first | omega | (simp; done) | (simp; omega) | exact Below.size (by assumption) | exact Nat.le_trans (Below.size (by assumption)) (by simp)) _) | (refine Below.via ?_ (by assumption) (by first | omega | (simp; done) | (simp; omega) | exact Below.size (by assumption) | exact Nat.le_trans (Below.size (by assumption)) (by simp))))))) (hYh.out.1.below (by exact (by repeat (first | exact Below.refl _ _ | assumption | refine Below.drew ?_ | refine below_drewN ?_ _ | refine Below.alloc' ?_ _ | (refine Below.setCell ?_ (by first | omega | (simp; done) | (simp; omega) | exact Below.size (by assumption) | exact Nat.le_trans (Below.size (by assumption)) (by simp)) _) | (refine Below.via' ?_ (by assumption)) | (refine Below.alloc ?_ (by first | omega | (simp; done) | (simp; omega) | exact Below.size (by assumption) | exact Nat.le_trans (Below.size (by assumption)) (by simp)) _) | (refine Below.via ?_ (by assumption) (by first | omega | (simp; done) | (simp; omega) | exact Below.size (by assumption) | exact Nat.le_trans (Below.size (by assumption)) (by simp)))))))).mono ?_
  rintro e w1 ⟨rfl, hb1⟩
  have B1 : Below w.heap.size w w1 := (by repeat (first | exact Below.refl _ _ | assumption | refine Below.drew ?_ | refine below_drewN ?_ _ | refine Below.alloc' ?_ _ | (refine Below.setCell ?_ (by first | omega | (simp; done) | (simp; omega) | exact Below.size (by assumption) | exact Nat.le_trans (Below.size (by assumption)) (by simp)) _) | (refine Below.via' ?_ (by assumption)) | (refine Below.alloc ?_ (by first | omega | (simp; done) | (simp; omega) | exact Below.size (by assumption) | exact Nat.le_trans (Below.size (by assumption)) (by simp)) _) | (refine Below.via ?_ (by assumption) (by first | omega | (simp; done) | (simp; omega) | exact Below.size (by assumption) | exact Nat.le_trans (Below.size (by assumption)) (by simp)))))
  have p1 := Lib.hid (q1.out.below hb1)
  have p2 := Lib.hid (q2.out.below hb1)
  obtain ⟨pa, pb, pc⟩ := p1.out
  obtain ⟨qa, qb, qc⟩ := p2.out
  clear q1 q2
  go_wp2_with fail
  refine (eqIntS_any _ _ _ _ _ _ hmW (hXh.out.2.below B1) (hYh.out.2.below B1)).mono ?_
  rintro e w2 ⟨rfl, hb2⟩
  obtain ⟨pa2, pb2, pc2⟩ := p1.out.below hb2
  obtain ⟨qa2, qb2, qc2⟩ := p2.out.below hb2
  clear pa pb pc qa qb qc
  go_wp2
  go_ret
  exact ⟨rfl, (by repeat (first | exact Below.refl _ _ | assumption | refine Below.drew ?_ | refine below_drewN ?_ _ | refine Below.alloc' ?_ _ | (refine Below.setCell ?_ (by first | omega | (simp; done) | (simp; omega) | exact Below.size (by assumption) | exact Nat.le_trans (Below.size (by assumption)) (by simp)) _) | (refine Below.via' ?_ (by assumption)) | (refine Below.alloc ?_ (by first | omega | (simp; done) | (simp; omega) | exact Below.size (by assumption) | exact Nat.le_trans (Below.size (by assumption)) (by simp)) _) | (refine Below.via ?_ (by assumption) (by first | omega | (simp; done) | (simp; omega) | exact Below.size (by assumption) | exact Nat.le_trans (Below.size (by assumption)) (by simp)))))⟩

theorem markCube_any (x y : Option Addr) (c d : Nat) (k : Int) (Z C : List Int) (lo hi : Nat) (w : World) (hk : 0 ≤ k) (hk2 : k ≤ 100000000000) (hmF : Z.length ≤ 1048576) (hmW : C.length ≤ 1048576) (hown : OwC w lo hi (.slice x Z.length c) (.slice y C.length d) Z C) :
    Calls Try.prog 26 #[.agg #[.slice x Z.length c, .slice y C.length d], .int .i64 k] w fun e w' => e = .returned (.int .i64 (k + Z.length + C.length)) ∧ OwC w' lo hi (.slice x Z.length c) (.slice y C.length d) (mkL k Z.length) (mkL (k + Z.length) C.length) ∧ Off lo hi w w' := by
  obtain ⟨mid, h1, h2, hF, hW⟩ := hown
  have q1 := Lib.hid (CQ.new w x Z.length c y C.length d 27)
  have hbA : Below w.heap.size w (w.alloc (.cells #[.slice x Z.length c, .slice y C.length d] 27)) := (by repeat (first | exact Below.refl _ _ | assumption | refine Below.drew ?_ | refine below_drewN ?_ _ | refine Below.alloc' ?_ _ | (refine Below.setCell ?_ (by first | omega | (simp; done) | (simp; omega) | exact Below.size (by assumption) | exact Nat.le_trans (Below.size (by assumption)) (by simp)) _) | (refine Below.via' ?_ (by assumption)) | (refine Below.alloc ?_ (by first | omega | (simp; done) | (simp; omega) | exact Below.size (by assumption) | exact Nat.le_trans (Below.size (by assumption)) (by simp)) _) | (refine Below.via ?_ (by assumption) (by first | omega | (simp; done) | (simp; omega) | exact Below.size (by assumption) | exact Nat.le_trans (Below.size (by assumption)) (by simp)))))
  have hFh := Lib.hid (hF.below hbA)
  have hWh := Lib.hid (hW.below hbA)
  have hlt := Lib.hid hF.1.lt
  clear hF hW
  go_enter Try.func26, Try.ntmps26
  go_wp2_with fail
  refine (markIntS_any _ _ _ _ _ _ _ hk (by omega) hmF hFh.out.1).mono ?_
  rintro e w1 ⟨rfl, hm1, hg1⟩
  have hw1 := Lib.hid (hWh.out.keep hg1 (fun k hk => by have := hFh.out.2 k hk; omega))
  have hf1 := Lib.hid (hFh.out.turn hm1)
  obtain ⟨pa, pb, pc⟩ := q1.out.grown hg1 (fun e => by have := hlt.out _ e.symm; omega)
  have o1 := Lib.hid ((Off.of_below hbA).trans (Off.of_grown hg1 (fun k hk => (by have := hFh.out.2 k hk; omega : lo ≤ k ∧ k < hi))))
  clear hg1 hm1
  go_wp2_with fail
  refine (markIntS_any _ _ _ _ _ _ _ (by omega) (by omega) hmW hw1.out.1).mono ?_
  rintro e w2 ⟨rfl, hm2, hg2⟩
  have o2 := Lib.hid (o1.out.trans (Off.of_grown hg2 (fun k hk => (by have := hw1.out.2 k hk; omega : lo ≤ k ∧ k < hi))))
  have hf2 := Lib.hid (hf1.out.keep hg2 (fun k hk => by have := hw1.out.2 k hk; omega))
  have hw2 := Lib.hid (hw1.out.turn hm2)
  clear hg2 hm2
  go_wp2
  go_ret
  exact ⟨rfl, ⟨mid, h1, h2, by rw [mkL_len]; exact hf2.out, by rw [mkL_len]; exact hw2.out⟩, o2.out⟩

theorem heldCube_any (x y : Option Addr) (n c m d : Nat) (k : Int) (w : World) (hk : 0 ≤ k) (hk2 : k ≤ 100000000000) (hmF : n ≤ 1048576) (hmW : m ≤ 1048576) (hF : Rd w x (iC (mkL k n))) (hW : Rd w y (iC (mkL (k + n) m))) :
    Calls Try.prog 27 #[.agg #[.slice x n c, .slice y m d], .int .i64 k] w fun e w' => e = .returned (.int .i64 (k + n + m)) ∧ Below w.heap.size w w' := by
  have hFh := Lib.hid hF
  have hWh := Lib.hid hW
  obtain ⟨pa, pb, pc⟩ := CQ.new w x n c y m d 27
  have hbA : Below w.heap.size w (w.alloc (.cells #[.slice x n c, .slice y m d] 27)) := (by repeat (first | exact Below.refl _ _ | assumption | refine Below.drew ?_ | refine below_drewN ?_ _ | refine Below.alloc' ?_ _ | (refine Below.setCell ?_ (by first | omega | (simp; done) | (simp; omega) | exact Below.size (by assumption) | exact Nat.le_trans (Below.size (by assumption)) (by simp)) _) | (refine Below.via' ?_ (by assumption)) | (refine Below.alloc ?_ (by first | omega | (simp; done) | (simp; omega) | exact Below.size (by assumption) | exact Nat.le_trans (Below.size (by assumption)) (by simp)) _) | (refine Below.via ?_ (by assumption) (by first | omega | (simp; done) | (simp; omega) | exact Below.size (by assumption) | exact Nat.le_trans (Below.size (by assumption)) (by simp)))))
  have k1 : ¬ (k + (n : Int) < 0) := by omega
  have k2 : ¬ (k + (n : Int) + (m : Int) < 0) := by omega
  clear hF hW
  go_enter Try.func27, Try.ntmps27
  go_wp2_with fail
  refine (heldIntS_any _ _ _ _ _ hk (by omega) hmF (hFh.out.below hbA)).mono ?_
  rintro e w1 ⟨rfl, rfl⟩
  go_wp2_with fail
  refine (heldIntS_any _ _ _ _ _ (by omega) (by omega) hmW (hWh.out.below hbA)).mono ?_
  rintro e w2 ⟨rfl, rfl⟩
  go_wp2
  go_ret
  exact ⟨rfl, hbA⟩

theorem cellsCu : Try.prog.cellsOf 24 = 2 := by kernel_rfl
/-- A cube that comes in. -/
theorem open_cube {H : Type} {enc : TypeId × Value → H} {W : World} {base : Nat} {v : Value} {d : DataW H} {p : List MemPlace} (hv : Value.okWide Try.prog W .any base 24 v)
    (h : DataW.Trod enc Try.prog W 0 (fun _ => true) true 24 v d p) : ∃ x c F z e V, v = .agg #[.slice x F.length c, .slice z V.length e] ∧ F.length ≤ 9223372036854775807 ∧ Hid (∀ n ∈ F, IsI64 n) ∧ Hid (Rd W x (iC F)) ∧ V.length ≤ 9223372036854775807 ∧ Hid (∀ n ∈ V, IsI64 n) ∧ Hid (Rd W z (iC V)) := by
  obtain ⟨c1, c2, y1, y2, n, rfl, rfl, rfl, hy1, hy2⟩ := open_agg2 Try.underlying24 (by kernel_rfl) cellsCu hv h
  obtain ⟨x, c, F, hcs, hl, hn, hr⟩ := open_intC hy1
  obtain ⟨z, e, V, hcs2, hl2, hn2, hr2⟩ := open_intC hy2
  simp at hcs hcs2
  subst hcs hcs2
  exact ⟨x, c, F, z, e, V, rfl, hl, hn, hr, hl2, hn2, hr2⟩

set_option maxHeartbeats 2000000 in
theorem eqIntSS_any (x y : Option Addr) (c1 c2 : Nat) (Q T : List PR) (w : World) (hm : Q.length ≤ 9223372036854775807) (hQ : ∀ q ∈ Q, q.L.length ≤ 9223372036854775807) (hT : eM T = eM Q) (hx : Rd w x (eC Q)) (hxi : ∀ q ∈ Q, Rd w q.x (iC q.L)) (hy : Rd w y (eC T)) (hyi : ∀ q ∈ T, Rd w q.x (iC q.L)) :
    Calls Try.prog 43 #[.slice x Q.length c1, .slice y T.length c2] w fun e w' => e = .returned (.bool true) ∧ Below w.heap.size w w' := by
  have hTl := eM_length hT
  have hTh := Lib.hid hT
  have hQh := Lib.hid hQ
  have hxh := Lib.hid hxi
  have hyh := Lib.hid hyi
  have hyr := Lib.hid hy
  clear hT hQ hxi hyi hy
  rw [hTl]
  replace hTl := Lib.hid hTl
  go_enter Try.func43, Try.ntmps43
  go_wp2
  go_loopw [5] (fun c wr => ∃ i : Nat, i ≤ Q.length ∧ c = .int .i64 i ∧ Below w.heap.size w wr) (fun c _ => Q.length - (intOf c).toNat)
  case atStart => exact ⟨0, by omega, rfl, Below.refl _ _⟩
  case round =>
    obtain ⟨i, hi, rfl, hb⟩ := hrel
    by_cases hlt : i < Q.length
    · obtain ⟨bl, off, q, rfl, hbl, hSi, hc0⟩ := (hx.below hb).ed hlt
      obtain ⟨bl2, off2, ⟨ta, th, tx, tc, tL⟩, rfl, hbl2, hSi2, hc3⟩ := (hyr.out.below hb).ed (i := i) (by have := hTl.out; omega)
      have e3 := eM_get hTh.out hSi hSi2
      simp only at e3 hc3
      subst e3
      have hl := hQh.out q (List.mem_of_getElem? hSi)
      have r1 := Lib.hid ((hxh.out q (List.mem_of_getElem? hSi)).below hb)
      have r2 := Lib.hid ((hyh.out _ (List.mem_of_getElem? hSi2)).below hb)
      clear hx hyr hSi hSi2
      have hlt' : (i : Int) < (Q.length : Int) := by omega
      have hi0 : (0 : Int) ≤ (i : Int) := by omega
      go_wp2
      go_region_held3 (fun w' => Below (wr).heap.size (wr) w' ∧ (∀ b o, b < (wr).heap.size → w'.cell? ⟨b, o, none⟩ = (wr).cell? ⟨b, o, none⟩)) (first | exact keep_of (Below.refl _ _) | ((try go_split_ands); exact keep_of (by repeat (first | exact Below.refl _ _ | assumption | refine Below.drew ?_ | refine below_drewN ?_ _ | refine Below.alloc' ?_ _ | (refine Below.setCell ?_ (by first | omega | (simp; done) | (simp; omega) | exact Below.size (by assumption) | exact Nat.le_trans (Below.size (by assumption)) (by simp)) _) | (refine Below.via' ?_ (by assumption)) | (refine Below.alloc ?_ (by first | omega | (simp; done) | (simp; omega) | exact Below.size (by assumption) | exact Nat.le_trans (Below.size (by assumption)) (by simp)) _) | (refine Below.via ?_ (by assumption) (by first | omega | (simp; done) | (simp; omega) | exact Below.size (by assumption) | exact Nat.le_trans (Below.size (by assumption)) (by simp))))))) ((go_at_call 24; refine (eqIntS_any _ _ _ _ q.L _ hl (r1.out.below (by exact (by repeat (first | exact Below.refl _ _ | assumption | refine Below.drew ?_ | refine below_drewN ?_ _ | refine Below.alloc' ?_ _ | (refine Below.setCell ?_ (by first | omega | (simp; done) | (simp; omega) | exact Below.size (by assumption) | exact Nat.le_trans (Below.size (by assumption)) (by simp)) _) | (refine Below.via' ?_ (by assumption)) | (refine Below.alloc ?_ (by first | omega | (simp; done) | (simp; omega) | exact Below.size (by assumption) | exact Nat.le_trans (Below.size (by assumption)) (by simp)) _) | (refine Below.via ?_ (by assumption) (by first | omega | (simp; done) | (simp; omega) | exact Below.size (by assumption) | exact Nat.le_trans (Below.size (by assumption)) (by simp))))))) (r2.out.below (by exact (by repeat (first | exact Below.refl _ _ | assumption | refine Below.drew ?_ | refine below_drewN ?_ _ | refine Below.alloc' ?_ _ | (refine Below.setCell ?_ (by first | omega | (simp; done) | (simp; omega) | exact Below.size (by assumption) | exact Nat.le_trans (Below.size (by assumption)) (by simp)) _) | (refine Below.via' ?_ (by assumption)) | (refine Below.alloc ?_ (by first | omega | (simp; done) | (simp; omega) | exact Below.size (by assumption) | exact Nat.le_trans (Below.size (by assumption)) (by simp)) _) | (refine Below.via ?_ (by assumption) (by first | omega | (simp; done) | (simp; omega) | exact Below.size (by assumption) | exact Nat.le_trans (Below.size (by assumption)) (by simp)))))))).mono ?_; rintro e w2 ⟨rfl, hb2⟩)); rename_i hH; obtain ⟨hb2, hcl2⟩ := hH; have hz2 := hb2.size; (try simp at hz2); (try (have hly2 := Nat.lt_of_succ_le hz2)); (try (have hlx2 := Nat.lt_of_succ_lt hly2)); (try (have hlw2 := Nat.lt_of_succ_lt hlx2)); (try (have hle2 := Nat.le_of_lt hly2)); (try (have hya2 : w.heap.size < w2.heap.size := by omega)); (try (have hyb2 : w.heap.size + 1 < w2.heap.size := by omega)); (try (have hyc2 : w.heap.size + 1 + 1 < w2.heap.size := by omega)); (try (have hyd2 : wa.heap.size < w2.heap.size := by omega))
      go_wp2
      go_roundw
      case rel => exact ⟨i + 1, by omega, by go_num, (by repeat (first | exact Below.refl _ _ | assumption | refine Below.drew ?_ | refine below_drewN ?_ _ | refine Below.alloc' ?_ _ | (refine Below.setCell ?_ (by first | omega | (simp; done) | (simp; omega) | exact Below.size (by assumption) | exact Nat.le_trans (Below.size (by assumption)) (by simp)) _) | (refine Below.via' ?_ (by assumption)) | (refine Below.alloc ?_ (by first | omega | (simp; done) | (simp; omega) | exact Below.size (by assumption) | exact Nat.le_trans (Below.size (by assumption)) (by simp)) _) | (refine Below.via ?_ (by assumption) (by first | omega | (simp; done) | (simp; omega) | exact Below.size (by assumption) | exact Nat.le_trans (Below.size (by assumption)) (by simp)))))⟩
      case measure => simp [intOf]; omega
    · have hij : i = Q.length := by omega
      subst hij
      clear hx hyr
      go_wp2
      go_ret
      exact ⟨rfl, hb⟩
set_option maxHeartbeats 4000000 in
theorem markIntSS_any (x : Option Addr) (cap : Nat) (k : Int) (lo hi : Nat) (Q : List PR) (w : World) (hk : 0 ≤ k) (hk2 : k ≤ 1000000000) (hn : Q.length ≤ 1048576) (ht : tot Q ≤ 1048576) (hown : OwE w lo hi 22 3 (.slice x Q.length cap) Q) :
    Calls Try.prog 44 #[.slice x Q.length cap, .int .i64 k] w fun e w' => e = .returned (.int .i64 (k + tot Q)) ∧ OwE w' lo hi 22 3 (.slice x Q.length cap) (mE k Q) ∧ Off lo hi w w' := by
  by_cases h0 : Q.length = 0
  · obtain rfl : Q = [] := List.eq_nil_of_length_eq_zero h0
    have hown := Lib.hid hown
    go_enter Try.func44, Try.ntmps44
    go_wp2
    refine wp_loop_rounds 1 ?_
    rw [rounds_succ]
    go_wp2
    go_ret
    exact ⟨ret_int (by simp [tot]), hown.out, Off.refl _ _ _⟩
  obtain ⟨g, cap', he⟩ := own_some hown.1.1 (by omega)
  injection he with hx _ hc
  subst hx hc
  have hown0 := Lib.hid hown
  clear hown
  go_enter Try.func44, Try.ntmps44
  go_wp2
  go_loopw [1, 5] (fun q c wr => ∃ i : Nat, i ≤ Q.length ∧ c = .int .i64 i ∧ q = .int .i64 (k + tot (Q.take i)) ∧ Hid (OwE wr lo hi 22 3 (.slice (some ⟨g, 0, none⟩) (mE k (Q.take i) ++ Q.drop i).length cap) (mE k (Q.take i) ++ Q.drop i)) ∧ Off lo hi w wr) (fun _ c _ => Q.length - (intOf c).toNat)
  case atStart => exact ⟨0, by omega, rfl, (by rw [tot0]; go_num), (by unfold Hid; simpa [mE] using hown0.out), Off.refl _ _ _⟩
  case round =>
    clear hown0
    obtain ⟨i, hil, rfl, rfl, hown, hb⟩ := hrel
    have hzl : (mE k (Q.take i) ++ Q.drop i).length = Q.length := by rw [List.length_append, mE_len, List.length_take, List.length_drop]; omega
    by_cases hlt : i < Q.length
    · obtain ⟨q, hq⟩ : ∃ q, Q[i]? = some q := ⟨Q[i], List.getElem?_eq_getElem hlt⟩
      have hZ : (mE k (Q.take i) ++ Q.drop i)[i]? = some q := by
        rw [List.getElem?_append_right (by rw [mE_len, List.length_take]; omega), mE_len, List.length_take, Nat.min_eq_left (by omega), Nat.sub_self, List.getElem?_drop, Nat.add_zero, hq]
      have hstep := Lib.hid (mE_step k hq hlt)
      have htt := tot_take hq
      have htl : tot (Q.take (i + 1)) ≤ tot Q := by
        conv => rhs; rw [← List.take_append_drop (i + 1) Q]
        unfold tot
        rw [List.map_append, List.sum_append]
        omega
      generalize hZe : mE k (Q.take i) ++ Q.drop i = Z at hown hZ hzl hstep
      have hti : tot (Q.take i) ≤ 1048576 := by omega
      generalize htie : tot (Q.take i) = t at *
      have hql : q.L.length ≤ 1048576 := by omega
      have ho0 := hown.out.1.1
      rw [hzl] at ho0
      obtain ⟨u0, hu0, k0⟩ := own_cell ho0 (j := i) (by omega)
      have e2 : u0 = .slice q.x q.L.length q.c := Option.some.inj (hu0.symm.trans (eC_at hZ))
      subst e2
      have k4 := (own_lt ho0).2
      have hin := Lib.hid (hown.out.1.2 g rfl)
      clear hu0 ho0
      replace hZ := Lib.hid hZ
      replace hq := Lib.hid hq
      have hlt' : (i : Int) < (Q.length : Int) := by omega
      go_wp2_with fail
      refine (markIntS_any _ _ _ _ lo _ _ (by omega) (by omega) hql (hown.out.2.1.1 _ (List.mem_of_getElem? hZ.out)).1).mono ?_
      rintro e w2 ⟨rfl, hm2, hg2⟩
      have P2 := Lib.hid (hown.out.turn hZ.out (by rw [mkL_len]) hm2 hg2)
      have hbl := Lib.hid ((hown.out.2.1.1 _ (List.mem_of_getElem? hZ.out)).2)
      go_wp2
      go_roundw
      case rel =>
        refine ⟨i + 1, by omega, by go_num, ?_, ?_, ?_⟩
        · rw [htt]
          congr 1
          push_cast
          omega
        · rw [hstep.out]
          exact P2.out
        · exact hb.trans (Off.of_grown hg2 (fun k hk => hbl.out k hk))
      case measure => simp [intOf]; omega
    · have hij : i = Q.length := by omega
      subst hij
      have hown := Lib.hid (show OwE wr lo hi 22 3 (.slice (some ⟨g, 0, none⟩) Q.length cap) (mE k Q) from by simpa [mE_len] using hown.out)
      rw [List.take_length]
      clear hzl
      go_wp2
      go_ret
      exact ⟨rfl, hown.out, hb⟩

set_option maxHeartbeats 4000000 in
theorem heldIntSS_any (x : Option Addr) (cap : Nat) (k : Int) (Q : List PR) (w : World) (hk : 0 ≤ k) (hk2 : k ≤ 1000000000) (hn : Q.length ≤ 1048576) (ht : tot Q ≤ 1048576) (hx : Rd w x (eC (mE k Q))) (hxi : ∀ q ∈ mE k Q, Rd w q.x (iC q.L)) :
    Calls Try.prog 45 #[.slice x Q.length cap, .int .i64 k] w fun e w' => e = .returned (.int .i64 (k + tot Q)) ∧ Below w.heap.size w w' := by
  have hxh := Lib.hid hx
  have hih := Lib.hid hxi
  clear hx hxi
  go_enter Try.func45, Try.ntmps45
  go_wp2
  go_loopw [1, 5] (fun q c wr => ∃ i : Nat, i ≤ Q.length ∧ c = .int .i64 i ∧ q = .int .i64 (k + tot (Q.take i)) ∧ Below w.heap.size w wr) (fun _ c _ => Q.length - (intOf c).toNat)
  case atStart => exact ⟨0, by omega, rfl, (by rw [tot0]; go_num), Below.refl _ _⟩
  case round =>
    obtain ⟨i, hi, rfl, rfl, hb⟩ := hrel
    by_cases hlt : i < Q.length
    · obtain ⟨q, hq⟩ : ∃ q, Q[i]? = some q := ⟨Q[i], List.getElem?_eq_getElem hlt⟩
      have htt := tot_take hq
      have htl : tot (Q.take (i + 1)) ≤ tot Q := by
        conv => rhs; rw [← List.take_append_drop (i + 1) Q]
        unfold tot
        rw [List.map_append, List.sum_append]
        omega
      have hma := mE_at k hq hlt
      generalize htie : tot (Q.take i) = t at *
      obtain ⟨bl, off, p, hbx, hbl, hSi, hc0⟩ := (hxh.out.below hb).ed (i := i) (by rw [mE_len]; exact hlt)
      have hrd := Lib.hid ((hih.out p (List.mem_of_getElem? hSi)).below hb)
      obtain rfl := Option.some.inj (hSi.symm.trans hma)
      simp only [mkL_len] at hc0 hrd
      subst hbx
      clear hSi hma
      replace hq := Lib.hid hq
      have hql : q.L.length ≤ 1048576 := by omega
      have hlt' : (i : Int) < (Q.length : Int) := by omega
      have hi0 : (0 : Int) ≤ (i : Int) := by omega
      have hkk : ¬ (k + (t : Int) + (q.L.length : Int) < 0) := by omega
      go_wp2_with fail
      refine (heldIntS_any _ _ _ _ _ (by omega) (by omega) hql (hrd.out.below (by exact (by repeat (first | exact Below.refl _ _ | assumption | refine Below.drew ?_ | refine below_drewN ?_ _ | refine Below.alloc' ?_ _ | (refine Below.setCell ?_ (by first | omega | (simp; done) | (simp; omega) | exact Below.size (by assumption) | exact Nat.le_trans (Below.size (by assumption)) (by simp)) _) | (refine Below.via' ?_ (by assumption)) | (refine Below.alloc ?_ (by first | omega | (simp; done) | (simp; omega) | exact Below.size (by assumption) | exact Nat.le_trans (Below.size (by assumption)) (by simp)) _) | (refine Below.via ?_ (by assumption) (by first | omega | (simp; done) | (simp; omega) | exact Below.size (by assumption) | exact Nat.le_trans (Below.size (by assumption)) (by simp)))))))).mono ?_
      rintro e w2 ⟨rfl, rfl⟩
      go_wp2
      go_roundw
      case rel =>
        refine ⟨i + 1, by omega, by go_num, ?_, (by repeat (first | exact Below.refl _ _ | assumption | refine Below.drew ?_ | refine below_drewN ?_ _ | refine Below.alloc' ?_ _ | (refine Below.setCell ?_ (by first | omega | (simp; done) | (simp; omega) | exact Below.size (by assumption) | exact Nat.le_trans (Below.size (by assumption)) (by simp)) _) | (refine Below.via' ?_ (by assumption)) | (refine Below.alloc ?_ (by first | omega | (simp; done) | (simp; omega) | exact Below.size (by assumption) | exact Nat.le_trans (Below.size (by assumption)) (by simp)) _) | (refine Below.via ?_ (by assumption) (by first | omega | (simp; done) | (simp; omega) | exact Below.size (by assumption) | exact Nat.le_trans (Below.size (by assumption)) (by simp)))))⟩
        rw [htt]
        congr 1
        push_cast
        omega
      case measure => simp [intOf]; omega
    · have hij : i = Q.length := by omega
      subst hij
      rw [List.take_length]
      go_wp2
      go_ret
      exact ⟨rfl, hb⟩
end Go.Proofs.Ytnmpigedhpdenaa
