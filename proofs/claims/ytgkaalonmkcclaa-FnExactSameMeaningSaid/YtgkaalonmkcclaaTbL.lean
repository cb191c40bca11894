/-
  The laws' helpers on tables (a struct of two integers and two slices of integers): the size, a copy, a comparison, marks; a table that comes in.
-/
import Derived.Test.YtgkaalonmkcclaaGeoL
import Derived.Test.YtgkaalonmkcclaaRecO
import Derived.Test.YtgkaalonmkcclaaRecM
namespace Go.Proofs.Ytgkaalonmkcclaa
open Go.ChangeShapes Go.WideShapes Go.ChangeAt Go.RowKit
open Go.Joins Go.Deep
set_option maxRecDepth 100000

/-- Block g holds a table. -/
def TQ (w : World) (g : Nat) (l : Int) (x : Option Addr) (n c : Nat) (z : Option Addr) (k d : Nat) (m : Int) : Prop :=
  w.cell? ⟨g, 0, none⟩ = some (.int .i64 l) ∧ w.cell? ⟨g, 1, none⟩ = some (.slice x n c) ∧ w.cell? ⟨g, 2, none⟩ = some (.slice z k d) ∧ w.cell? ⟨g, 3, none⟩ = some (.int .i64 m) ∧ g < w.heap.size
section
variable {w w' : World} {g : Nat} {l : Int} {x : Option Addr} {n c : Nat} {z : Option Addr} {k d : Nat} {m : Int}
theorem TQ.new (w : World) (l : Int) (x : Option Addr) (n c : Nat) (z : Option Addr) (k d : Nat) (m : Int) (t : TypeId) : TQ (w.alloc (.cells #[.int .i64 l, .slice x n c, .slice z k d, .int .i64 m] t)) w.heap.size l x n c z k d m := by
  have h := Wb.new w t #[.int .i64 l, .slice x n c, .slice z k d, .int .i64 m]
  exact ⟨(h.read 0).trans rfl, (h.read 1).trans rfl, (h.read 2).trans rfl, (h.read 3).trans rfl, h.inside⟩
theorem TQ.of_block (h : TQ w g l x n c z k d m) (e : w'.heap[g]? = w.heap[g]?) (hs : w.heap.size ≤ w'.heap.size) : TQ w' g l x n c z k d m :=
  ⟨(World.cell?_of_block (a := ⟨g, 0, none⟩) e).trans h.1, (World.cell?_of_block (a := ⟨g, 1, none⟩) e).trans h.2.1, (World.cell?_of_block (a := ⟨g, 2, none⟩) e).trans h.2.2.1, (World.cell?_of_block (a := ⟨g, 3, none⟩) e).trans h.2.2.2.1, Nat.lt_of_lt_of_le h.2.2.2.2 hs⟩
theorem TQ.below (h : TQ w g l x n c z k d m) (hb : Below w.heap.size w w') : TQ w' g l x n c z k d m := h.of_block (hb.block g h.2.2.2.2) hb.size
theorem TQ.grown {r : Option Nat} (h : TQ w g l x n c z k d m) (hg : w.grownBy w' r) (hne : some g ≠ r) : TQ w' g l x n c z k d m := h.of_block (hg.block g h.2.2.2.2 hne) hg.size
theorem TQ.off {lo hi : Nat} (h : TQ w g l x n c z k d m) (hg : Off lo hi w w') (hne : g < lo ∨ hi ≤ g) : TQ w' g l x n c z k d m := h.of_block (hg.block g h.2.2.2.2 hne) hg.size
end
theorem QB.off {w w' : World} {lo hi g : Nat} {y : Option Addr} {n c : Nat} (h : QB w g y n c) (hg : Off lo hi w w') (hne : g < lo ∨ hi ≤ g) : QB w' g y n c := by
  have e := hg.block g h.2.2 hne
  exact ⟨(World.cell?_of_block (a := ⟨g, 0, none⟩) e).trans h.1, (World.frozen?_of_block (a := ⟨g, 0, none⟩) e).trans h.2.1, Nat.lt_of_lt_of_le h.2.2 hg.size⟩
/-- A table's two lists that come in. -/
def TIn (w : World) (x z : Option Addr) (F W : List Int) : Prop := IIn w x F ∧ IIn w z W
theorem TIn.below {w w' : World} {x z : Option Addr} {F W : List Int} (h : TIn w x z F W) (hb : Below w.heap.size w w') : TIn w' x z F W := ⟨h.1.below hb, h.2.below hb⟩
/-- A table's two lists that are owned: apart from each other. -/
def OwT (w : World) (lo hi : Nat) (u v : Value) (F W : List Int) : Prop := ∃ mid, lo ≤ mid ∧ mid ≤ hi ∧ OwR w lo mid 3 1 u F.length (iC F) ∧ OwR w mid hi 3 1 v W.length (iC W)
section
variable {w w' : World} {lo hi : Nat} {u v : Value} {F W : List Int}
theorem OwT.below (h : OwT w lo hi u v F W) (hb : Below w.heap.size w w') : OwT w' lo hi u v F W := by
  obtain ⟨mid, h1, h2, a, b⟩ := h
  exact ⟨mid, h1, h2, a.below hb, b.below hb⟩
theorem OwT.off {lo2 hi2 : Nat} (h : OwT w lo hi u v F W) (hg : Off lo2 hi2 w w') (hne : hi ≤ lo2 ∨ hi2 ≤ lo) : OwT w' lo hi u v F W := by
  obtain ⟨mid, h1, h2, a, b⟩ := h
  exact ⟨mid, h1, h2, a.off hg (by omega), b.off hg (by omega)⟩
theorem OwT.keep {r : Option Nat} (h : OwT w lo hi u v F W) (hg : w.grownBy w' r) (hr : ∀ k, r = some k → k < lo ∨ hi ≤ k) : OwT w' lo hi u v F W := by
  obtain ⟨mid, h1, h2, a, b⟩ := h
  exact ⟨mid, h1, h2, a.keep hg (fun k hk => by have := hr k hk; omega), b.keep hg (fun k hk => by have := hr k hk; omega)⟩
end
theorem TIn.of_owT {w : World} {lo hi : Nat} {x z : Option Addr} {c d : Nat} {F W : List Int} (h : OwT w lo hi (.slice x F.length c) (.slice z W.length d) F W) (hF : F.length ≤ 1048576) (hW : W.length ≤ 1048576) (hnF : ∀ n ∈ F, IsI64 n) (hnW : ∀ n ∈ W, IsI64 n) : TIn w x z F W := by
  obtain ⟨mid, h1, h2, a, b⟩ := h
  exact ⟨⟨hF, hnF, a.rd⟩, ⟨hW, hnW, b.rd⟩⟩

/-- A size, in words that go on. -/
def SzQ (left : Int) (len : Nat) (w : World) (e : Ending) (w' : World) : Prop := ∃ r : Int, e = .returned (.int .i64 r) ∧ r ≤ left ∧ -1 ≤ r ∧ (0 ≤ r → r + len = left) ∧ Below w.heap.size w w'
theorem szGeo_x (y : Option Addr) (len cap : Nat) (left : Int) (w : World) (hl : 0 ≤ left) (h : left ≤ 1048576) (hm : len ≤ 9223372036854775807) :
    Calls Try.prog 13 #[.agg #[.slice y len cap], .int .i64 left] w (SzQ left len w) :=
  (szGeo_any y len cap left w hl h hm).mono fun e w' ⟨he, hb⟩ => ⟨szZ left len, he, by unfold szZ; split <;> omega, by unfold szZ; split <;> omega, by unfold szZ; split <;> omega, hb⟩
theorem szRecord_x (a h' : Int) (y : Option Addr) (len cap : Nat) (left : Int) (w : World) (hl : 0 ≤ left) (h : left ≤ 1048576) (hm : len ≤ 9223372036854775807) :
    Calls Try.prog 45 #[.agg #[.int .i64 a, .int .i64 h', .slice y len cap], .int .i64 left] w (SzQ left len w) :=
  (szRecord_any a h' y len cap left w hl h hm).mono fun e w' ⟨he, hb⟩ => ⟨szZ left len, he, by unfold szZ; split <;> omega, by unfold szZ; split <;> omega, by unfold szZ; split <;> omega, hb⟩
theorem szTable_x (l : Int) (x : Option Addr) (n c : Nat) (z : Option Addr) (k d : Nat) (m : Int) (left : Int) (w : World) (hl : 0 ≤ left) (h : left ≤ 1048576) (hn : n ≤ 9223372036854775807) (hk : k ≤ 9223372036854775807) :
    Calls Try.prog 15 #[.agg #[.int .i64 l, .slice x n c, .slice z k d, .int .i64 m], .int .i64 left] w (SzQ left (n + k) w) := by
  have hb := szZ_bd left n hl
  have e1 : szZ left n = -1 ∧ left < n ∨ szZ left n = left - n ∧ 0 ≤ left - n := by unfold szZ; split <;> omega
  by_cases hn1 : szZ left n < 0
  · go_enter Try.func15, Try.ntmps15
    go_wp2_with (go_at_call 57; refine (szIntS_any _ _ _ _ _ hl h hn).mono ?_; rintro e w1 ⟨rfl, rfl⟩)
    go_ret
    exact ⟨-1, rfl, by omega, by omega, by omega, (by repeat (first | exact Below.refl _ _ | assumption | refine Below.drew ?_ | refine below_drewN ?_ _ | refine Below.alloc' ?_ _ | (refine Below.setCell ?_ (by first | omega | (simp; done) | (simp; omega) | exact Below.size (by assumption) | exact Nat.le_trans (Below.size (by assumption)) (by simp)) _) | (refine Below.via' ?_ (by assumption)) | (refine Below.alloc ?_ (by first | omega | (simp; done) | (simp; omega) | exact Below.size (by assumption) | exact Nat.le_trans (Below.size (by assumption)) (by simp)) _) | (refine Below.via ?_ (by assumption) (by first | omega | (simp; done) | (simp; omega) | exact Below.size (by assumption) | exact Nat.le_trans (Below.size (by assumption)) (by simp)))))⟩
  have hl2 : 0 ≤ szZ left n := by omega
  have h2 : szZ left n ≤ 1048576 := by omega
  have e2 : szZ (szZ left n) k = -1 ∧ szZ left n < k ∨ szZ (szZ left n) k = szZ left n - k ∧ 0 ≤ szZ left n - k := by unfold szZ at hl2 ⊢; split <;> omega
  by_cases hn2 : szZ (szZ left n) k < 0
  · go_enter Try.func15, Try.ntmps15
    go_wp2_with fail
    refine (szIntS_any _ _ _ _ _ hl h hn).mono ?_
    rintro e w1 ⟨rfl, rfl⟩
    go_wp2_with fail
    refine (szIntS_any _ _ _ _ _ hl2 h2 hk).mono ?_
    rintro e w2 ⟨rfl, rfl⟩
    go_wp2
    go_ret
    exact ⟨-1, rfl, by omega, by omega, by omega, (by repeat (first | exact Below.refl _ _ | assumption | refine Below.drew ?_ | refine below_drewN ?_ _ | refine Below.alloc' ?_ _ | (refine Below.setCell ?_ (by first | omega | (simp; done) | (simp; omega) | exact Below.size (by assumption) | exact Nat.le_trans (Below.size (by assumption)) (by simp)) _) | (refine Below.via' ?_ (by assumption)) | (refine Below.alloc ?_ (by first | omega | (simp; done) | (simp; omega) | exact Below.size (by assumption) | exact Nat.le_trans (Below.size (by assumption)) (by simp)) _) | (refine Below.via ?_ (by assumption) (by first | omega | (simp; done) | (simp; omega) | exact Below.size (by assumption) | exact Nat.le_trans (Below.size (by assumption)) (by simp)))))⟩
  · go_enter Try.func15, Try.ntmps15
    go_wp2_with fail
    refine (szIntS_any _ _ _ _ _ hl h hn).mono ?_
    rintro e w1 ⟨rfl, rfl⟩
    go_wp2_with fail
    refine (szIntS_any _ _ _ _ _ hl2 h2 hk).mono ?_
    rintro e w2 ⟨rfl, rfl⟩
    go_wp2
    go_ret
    exact ⟨_, rfl, by omega, by omega, fun _ => by omega, (by repeat (first | exact Below.refl _ _ | assumption | refine Below.drew ?_ | refine below_drewN ?_ _ | refine Below.alloc' ?_ _ | (refine Below.setCell ?_ (by first | omega | (simp; done) | (simp; omega) | exact Below.size (by assumption) | exact Nat.le_trans (Below.size (by assumption)) (by simp)) _) | (refine Below.via' ?_ (by assumption)) | (refine Below.alloc ?_ (by first | omega | (simp; done) | (simp; omega) | exact Below.size (by assumption) | exact Nat.le_trans (Below.size (by assumption)) (by simp)) _) | (refine Below.via ?_ (by assumption) (by first | omega | (simp; done) | (simp; omega) | exact Below.size (by assumption) | exact Nat.le_trans (Below.size (by assumption)) (by simp)))))⟩

/-- A table that the law has copied. -/
def TbPost (l : Int) (F W : List Int) (m : Int) (w : World) (e : Ending) (w' : World) : Prop :=
  ∃ g f, e = .returned (.agg #[.int .i64 l, .slice (some ⟨g, 0, none⟩) F.length F.length, .slice (some ⟨f, 0, none⟩) W.length W.length, .int .i64 m]) ∧ OwT w' w.heap.size w'.heap.size (.slice (some ⟨g, 0, none⟩) F.length F.length) (.slice (some ⟨f, 0, none⟩) W.length W.length) F W ∧ Below w.heap.size w w'
set_option maxHeartbeats 2000000 in
theorem toTable_any (l : Int) (x z : Option Addr) (c d : Nat) (F W : List Int) (m : Int) (w : World) (hmF : F.length ≤ 1048576) (hmW : W.length ≤ 1048576) (hF : Rd w x (iC F)) (hW : Rd w z (iC W)) :
    Calls Try.prog 19 #[.agg #[.int .i64 l, .slice x F.length c, .slice z W.length d, .int .i64 m]] w (TbPost l F W m w) := by
  have hFh := Lib.hid hF
  have hWh := Lib.hid hW
  clear hF hW
  have hq := Lib.hid (TQ.new w l x F.length c z W.length d m 27)
  go_enter Try.func19, Try.ntmps19
  go_wp2_with fail
  refine (toIntS_any _ _ _ _ hmF (hFh.out.below (by exact (by repeat (first | exact Below.refl _ _ | assumption | refine Below.drew ?_ | refine below_drewN ?_ _ | refine Below.alloc' ?_ _ | (refine Below.setCell ?_ (by first | omega | (simp; done) | (simp; omega) | exact Below.size (by assumption) | exact Nat.le_trans (Below.size (by assumption)) (by simp)) _) | (refine Below.via' ?_ (by assumption)) | (refine Below.alloc ?_ (by first | omega | (simp; done) | (simp; omega) | exact Below.size (by assumption) | exact Nat.le_trans (Below.size (by assumption)) (by simp)) _) | (refine Below.via ?_ (by assumption) (by first | omega | (simp; done) | (simp; omega) | exact Below.size (by assumption) | exact Nat.le_trans (Below.size (by assumption)) (by simp)))))))).mono ?_
  rintro e w1 ⟨rfl, ho1, hb1⟩
  obtain ⟨hcl1, hfr1⟩ := bcell hb1
  have hz1 := hb1.size; (try simp at hz1); (try (have hly1 := Nat.lt_of_succ_le hz1)); (try (have hlx1 := Nat.lt_of_succ_lt hly1)); (try (have hlw1 := Nat.lt_of_succ_lt hlx1)); (try (have hle1 := Nat.le_of_lt hly1))
  have hoh := Lib.hid ho1
  clear ho1
  have B1 : Below w.heap.size w w1 := (by repeat (first | exact Below.refl _ _ | assumption | refine Below.drew ?_ | refine below_drewN ?_ _ | refine Below.alloc' ?_ _ | (refine Below.setCell ?_ (by first | omega | (simp; done) | (simp; omega) | exact Below.size (by assumption) | exact Nat.le_trans (Below.size (by assumption)) (by simp)) _) | (refine Below.via' ?_ (by assumption)) | (refine Below.alloc ?_ (by first | omega | (simp; done) | (simp; omega) | exact Below.size (by assumption) | exact Nat.le_trans (Below.size (by assumption)) (by simp)) _) | (refine Below.via ?_ (by assumption) (by first | omega | (simp; done) | (simp; omega) | exact Below.size (by assumption) | exact Nat.le_trans (Below.size (by assumption)) (by simp)))))
  have hb1 := Lib.hid hb1
  go_wp2_with fail
  refine (toIntS_any _ _ _ _ hmW (hWh.out.below (by exact (by repeat (first | exact Below.refl _ _ | assumption | refine Below.drew ?_ | refine below_drewN ?_ _ | refine Below.alloc' ?_ _ | (refine Below.setCell ?_ (by first | omega | (simp; done) | (simp; omega) | exact Below.size (by assumption) | exact Nat.le_trans (Below.size (by assumption)) (by simp)) _) | (refine Below.via' ?_ (by assumption)) | (refine Below.alloc ?_ (by first | omega | (simp; done) | (simp; omega) | exact Below.size (by assumption) | exact Nat.le_trans (Below.size (by assumption)) (by simp)) _) | (refine Below.via ?_ (by assumption) (by first | omega | (simp; done) | (simp; omega) | exact Below.size (by assumption) | exact Nat.le_trans (Below.size (by assumption)) (by simp)))))))).mono ?_
  rintro e w2 ⟨rfl, ho2, hb2⟩
  simp only [World.size_setCell] at ho2
  obtain ⟨hcl2, hfr2⟩ := bcell hb2
  have hz2 := hb2.size
  simp at hz2
  have hl2 : w.heap.size + 1 + 1 < w2.heap.size := by omega
  have hl3 : w.heap.size + 1 < w2.heap.size := by omega
  have hl4 : w.heap.size < w2.heap.size := by omega
  have hlt2 : w1.heap.size < w2.heap.size := (own_lt ho2).2
  have ho2h := Lib.hid ho2
  clear ho2
  have B2 : Below w.heap.size w w2 := (by repeat (first | exact Below.refl _ _ | assumption | refine Below.drew ?_ | refine below_drewN ?_ _ | refine Below.alloc' ?_ _ | (refine Below.setCell ?_ (by first | omega | (simp; done) | (simp; omega) | exact Below.size (by assumption) | exact Nat.le_trans (Below.size (by assumption)) (by simp)) _) | (refine Below.via' ?_ (by assumption)) | (refine Below.alloc ?_ (by first | omega | (simp; done) | (simp; omega) | exact Below.size (by assumption) | exact Nat.le_trans (Below.size (by assumption)) (by simp)) _) | (refine Below.via ?_ (by assumption) (by first | omega | (simp; done) | (simp; omega) | exact Below.size (by assumption) | exact Nat.le_trans (Below.size (by assumption)) (by simp)))))
  have ho3 : w1.ownsRow (w.heap.size + 1 + 1 + 1) 3 1 (.slice (some ⟨w.heap.size + 1 + 1 + 1, 0, none⟩) F.length F.length) F.length (iC F) := by simpa using hoh.out
  have ho4 : w2.ownsRow (w.heap.size + 1 + 1 + 1) 3 1 (.slice (some ⟨w.heap.size + 1 + 1 + 1, 0, none⟩) F.length F.length) F.length (iC F) := own_below (ownsRow_setCell_below ho3 (by simp) _) hb2
  have ho4 := Lib.hid ho4
  have hz1' : w.heap.size + 1 + 1 + 1 < w1.heap.size := (own_lt ho3).2
  clear ho3 hoh
  go_wp2
  refine bodyPost_ret (v := .agg #[.int .i64 l, .slice (some ⟨w.heap.size + 1 + 1 + 1, 0, none⟩) F.length F.length, .slice (some ⟨w1.heap.size, 0, none⟩) W.length W.length, .int .i64 m]) (by simp [results, Try.results19, go_sem, *]) rfl ⟨_, _, rfl, ⟨w1.heap.size, by omega, by simp; omega, ⟨?_, ?_⟩, ⟨?_, ?_⟩⟩, ?_⟩
  · refine own_more (base := w.heap.size + 1 + 1 + 1) ?_ (by omega)
    repeat (refine ownsRow_setCell_below ?_ (by simp; try omega) _)
    exact ho4.out
  · intro k hk
    obtain rfl : w.heap.size + 1 + 1 + 1 = k := by injection hk
    omega
  · repeat (refine ownsRow_setCell_below ?_ (by simp; try omega) _)
    exact ho2h.out
  · intro k hk
    obtain rfl : w1.heap.size = k := by injection hk
    simp only [World.size_setCell]
    exact ⟨Nat.le_refl _, hlt2⟩
  · repeat (refine Below.setCell ?_ (by simp; try omega) _)
    exact B2

theorem eqTable_any (x z x2 z2 : Option Addr) {c d c2 d2 : Nat} (l m : Int) (F W : List Int) (w : World) (hmF : F.length ≤ 9223372036854775807) (hmW : W.length ≤ 9223372036854775807) (hX : TIn w x z F W) (hY : TIn w x2 z2 F W) :
    Calls Try.prog 23 #[.agg #[.int .i64 l, .slice x F.length c, .slice z W.length d, .int .i64 m], .agg #[.int .i64 l, .slice x2 F.length c2, .slice z2 W.length d2, .int .i64 m]] w fun e w' => e = .returned (.bool true) ∧ Below w.heap.size w w' := by
  have hXh := Lib.hid hX
  have hYh := Lib.hid hY
  have q1 := Lib.hid (TQ.new w l x F.length c z W.length d m 37)
  have q2 := Lib.hid (TQ.new (w.alloc (.cells #[.int .i64 l, .slice x F.length c, .slice z W.length d, .int .i64 m] 37)) l x2 F.length c2 z2 W.length d2 m 37)
  have q1 := Lib.hid (q1.out.below (show Below (w.alloc (.cells #[.int .i64 l, .slice x F.length c, .slice z W.length d, .int .i64 m] 37)).heap.size (w.alloc (.cells #[.int .i64 l, .slice x F.length c, .slice z W.length d, .int .i64 m] 37)) ((w.alloc (.cells #[.int .i64 l, .slice x F.length c, .slice z W.length d, .int .i64 m] 37)).alloc (.cells #[.int .i64 l, .slice x2 F.length c2, .slice z2 W.length d2, .int .i64 m] 37)) from (by repeat (first | exact Below.refl _ _ | assumption | refine Below.drew ?_ | refine below_drewN ?_ _ | refine Below.alloc' ?_ _ | (refine Below.setCell ?_ (by first | omega | (simp; done) | (simp; omega) | exact Below.size (by assumption) | exact Nat.le_trans (Below.size (by assumption)) (by simp)) _) | (refine Below.via' ?_ (by assumption)) | (refine Below.alloc ?_ (by first | omega | (simp; done) | (simp; omega) | exact Below.size (by assumption) | exact Nat.le_trans (Below.size (by assumption)) (by simp)) _) | (refine Below.via ?_ (by assumption) (by first | omega | (simp; done) | (simp; omega) | exact Below.size (by assumption) | exact Nat.le_trans (Below.size (by assumption)) (by simp)))))))
  replace q2 := q2.out
  rw [World.size_alloc] at q2
  replace q2 := Lib.hid q2
  clear hX hY
  go_enter Try.func23, Try.ntmps23
  go_wp2_with fail
  refine (eqIntS_any _ _ _ _ _ _ hmF (hXh.out.1.2.2.below (by exact (by repeat (first | exact Below.refl _ _ | assumption | refine Below.drew ?_ | refine below_drewN ?_ _ | refine Below.alloc' ?_ _ | (refine Below.setCell ?_ (by first | omega | (simp; done) | (simp; omega) | exact Below.size (by assumption) | exact Nat.le_trans (Below.size (by assumption)) (by simp)) _) | (refine Below.via' ?_ (by assumption)) | (refine Below.alloc ?_ (by first | omega | (simp; done) | (simp; omega) | exact Below.size (by assumption) | exact Nat.le_trans (Below.size (by assumption)) (by simp)) _) | (refine Below.via ?_ (by assumption) (by first | omega | (simp; done) | (simp; omega) | exact Below.size (by assumption) | exact Nat.le_trans (Below.size (by assumption)) (by simp))))))) (hYh.out.1.2.2.below (by exact (by repeat (first | exact Below.refl _ _ | assumption | refine Below.drew ?_ | refine below_drewN ?_ _ | refine Below.alloc' ?_ _ | (refine Below.setCell ?_ (by first | omega | (simp; done) | (simp; omega) | exact Below.size (by assumption) | exact Nat.le_trans (Below.size (by assumption)) (by simp)) _) | (refine Below.via' ?_ (by assumption)) | (refine Below.alloc ?_ (by first | omega | (simp; done) | (simp; omega) | exact Below.size (by assumption) | exact Nat.le_trans (Below.size (by assumption)) (by simp)) _) | (refine Below.via ?_ (by assumption) (by first | omega | (simp; done) | (simp; omega) | exact Below.size (by assumption) | exact Nat.le_trans (Below.size (by assumption)) (by simp)))))))).mono ?_
  rintro e w1 ⟨rfl, hb1⟩
  have B1 : Below w.heap.size w w1 := (by repeat (first | exact Below.refl _ _ | assumption | refine Below.drew ?_ | refine below_drewN ?_ _ | refine Below.alloc' ?_ _ | (refine Below.setCell ?_ (by first | omega | (simp; done) | (simp; omega) | exact Below.size (by assumption) | exact Nat.le_trans (Below.size (by assumption)) (by simp)) _) | (refine Below.via' ?_ (by assumption)) | (refine Below.alloc ?_ (by first | omega | (simp; done) | (simp; omega) | exact Below.size (by assumption) | exact Nat.le_trans (Below.size (by assumption)) (by simp)) _) | (refine Below.via ?_ (by assumption) (by first | omega | (simp; done) | (simp; omega) | exact Below.size (by assumption) | exact Nat.le_trans (Below.size (by assumption)) (by simp)))))
  have p1 := Lib.hid (q1.out.below hb1)
  have p2 := Lib.hid (q2.out.below hb1)
  obtain ⟨pa, pb, pc, pd, pe⟩ := p1.out
  obtain ⟨qa, qb, qc, qd, qe⟩ := p2.out
  clear q1 q2
  go_wp2_with fail
  refine (eqIntS_any _ _ _ _ _ _ hmW (hXh.out.2.2.2.below B1) (hYh.out.2.2.2.below B1)).mono ?_
  rintro e w2 ⟨rfl, hb2⟩
  obtain ⟨pa2, pb2, pc2, pd2, pe2⟩ := p1.out.below hb2
  obtain ⟨qa2, qb2, qc2, qd2, qe2⟩ := p2.out.below hb2
  clear pa pb pc pd qa qb qc qd
  go_wp2
  go_ret
  exact ⟨rfl, (by repeat (first | exact Below.refl _ _ | assumption | refine Below.drew ?_ | refine below_drewN ?_ _ | refine Below.alloc' ?_ _ | (refine Below.setCell ?_ (by first | omega | (simp; done) | (simp; omega) | exact Below.size (by assumption) | exact Nat.le_trans (Below.size (by assumption)) (by simp)) _) | (refine Below.via' ?_ (by assumption)) | (refine Below.alloc ?_ (by first | omega | (simp; done) | (simp; omega) | exact Below.size (by assumption) | exact Nat.le_trans (Below.size (by assumption)) (by simp)) _) | (refine Below.via ?_ (by assumption) (by first | omega | (simp; done) | (simp; omega) | exact Below.size (by assumption) | exact Nat.le_trans (Below.size (by assumption)) (by simp)))))⟩

theorem markTable_any (l : Int) (x z : Option Addr) (c d : Nat) (m k : Int) (F W : List Int) (lo hi : Nat) (w : World) (hk : 0 ≤ k) (hk2 : k ≤ 100000000000) (hmF : F.length ≤ 1048576) (hmW : W.length ≤ 1048576) (hown : OwT w lo hi (.slice x F.length c) (.slice z W.length d) F W) :
    Calls Try.prog 34 #[.agg #[.int .i64 l, .slice x F.length c, .slice z W.length d, .int .i64 m], .int .i64 k] w fun e w' => e = .returned (.int .i64 (k + F.length + W.length)) ∧ Off lo hi w w' := by
  obtain ⟨mid, h1, h2, hF, hW⟩ := hown
  have q1 := Lib.hid (TQ.new w l x F.length c z W.length d m 37)
  have hbA : Below w.heap.size w (w.alloc (.cells #[.int .i64 l, .slice x F.length c, .slice z W.length d, .int .i64 m] 37)) := (by repeat (first | exact Below.refl _ _ | assumption | refine Below.drew ?_ | refine below_drewN ?_ _ | refine Below.alloc' ?_ _ | (refine Below.setCell ?_ (by first | omega | (simp; done) | (simp; omega) | exact Below.size (by assumption) | exact Nat.le_trans (Below.size (by assumption)) (by simp)) _) | (refine Below.via' ?_ (by assumption)) | (refine Below.alloc ?_ (by first | omega | (simp; done) | (simp; omega) | exact Below.size (by assumption) | exact Nat.le_trans (Below.size (by assumption)) (by simp)) _) | (refine Below.via ?_ (by assumption) (by first | omega | (simp; done) | (simp; omega) | exact Below.size (by assumption) | exact Nat.le_trans (Below.size (by assumption)) (by simp)))))
  have hFh := Lib.hid (hF.below hbA)
  have hWh := Lib.hid (hW.below hbA)
  have hlt := Lib.hid hF.1.lt
  clear hF hW
  go_enter Try.func34, Try.ntmps34
  go_wp2_with fail
  refine (markIntS_any _ _ _ _ _ _ _ hk (by omega) hmF hFh.out.1).mono ?_
  rintro e w1 ⟨rfl, -, hg1⟩
  have hw1 := Lib.hid (hWh.out.keep hg1 (fun k hk => by have := hFh.out.2 k hk; omega))
  obtain ⟨pa, pb, pc, pd, pe⟩ := q1.out.grown hg1 (fun e => by have := hlt.out _ e.symm; omega)
  have o1 := Lib.hid ((Off.of_below hbA).trans (Off.of_grown hg1 (fun k hk => (by have := hFh.out.2 k hk; omega : lo ≤ k ∧ k < hi))))
  clear hg1
  go_wp2_with fail
  refine (markIntS_any _ _ _ _ _ _ _ (by omega) (by omega) hmW hw1.out.1).mono ?_
  rintro e w2 ⟨rfl, -, hg2⟩
  have o2 := Lib.hid (o1.out.trans (Off.of_grown hg2 (fun k hk => (by have := hw1.out.2 k hk; omega : lo ≤ k ∧ k < hi))))
  clear hg2
  go_wp2
  go_ret
  exact ⟨rfl, o2.out⟩

theorem cellsT : Try.prog.cellsOf 27 = 4 := by kernel_rfl
/-- A table that comes in. -/
theorem open_table {H : Type} {enc : TypeId × Value → H} {W : World} {base : Nat} {v : Value} {d : DataW H} {p : List MemPlace} (hv : Value.okWide Try.prog W .any base 27 v)
    (h : DataW.Trod enc Try.prog W 0 (fun _ => true) true 27 v d p) : ∃ l x c F z e V m, v = .agg #[.int .i64 l, .slice x F.length c, .slice z V.length e, .int .i64 m] ∧ F.length ≤ 9223372036854775807 ∧ Hid (∀ n ∈ F, IsI64 n) ∧ Hid (Rd W x (iC F)) ∧ V.length ≤ 9223372036854775807 ∧ Hid (∀ n ∈ V, IsI64 n) ∧ Hid (Rd W z (iC V)) := by
  obtain ⟨c0, c1, c2, c3, y0, y1, y2, y3, n, rfl, rfl, rfl, hy0, hy1, hy2, hy3⟩ := open_agg4 Try.underlying27 (by kernel_rfl) cellsT hv h
  obtain ⟨a, e0, rfl, wa⟩ := DataW.trod_int Try.underlying3 hy0
  obtain ⟨b, e3, rfl, wb⟩ := DataW.trod_int Try.underlying3 hy3
  obtain ⟨x, c, F, hcs, hl, hn, hr⟩ := open_intC hy1
  obtain ⟨z, e, V, hcs2, hl2, hn2, hr2⟩ := open_intC hy2
  simp at e0 e3 hcs hcs2
  subst e0 e3 hcs hcs2
  exact ⟨a, x, c, F, z, e, V, b, rfl, hl, hn, hr, hl2, hn2, hr2⟩
end Go.Proofs.Ytgkaalonmkcclaa
