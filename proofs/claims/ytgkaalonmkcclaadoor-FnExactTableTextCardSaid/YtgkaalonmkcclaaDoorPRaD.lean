import Derived.Test.YtgkaalonmkcclaaDoorGeoL
import Derived.Test.YtgkaalonmkcclaaDoorPRaC
import Derived.Test.YtgkaalonmkcclaaDoorRecM
import Derived.Test.YtgkaalonmkcclaaDoorPRaB
import Derived.Test.YtgkaalonmkcclaaDoorEdG
import Derived.Test.YtgkaalonmkcclaaDoorEdV
import Derived.RegionTactic
import Derived.BigRegion
import Derived.StillTailTactics
import Derived.Deep.OwnRows
namespace Go.Proofs.YtgkaalonmkcclaaDoor
open Go.ChangeShapes Go.WideShapes Go.ChangeAt Go.RowKit
open Go.Joins Go.Deep
set_option maxRecDepth 100000

/-- Block g holds a table. -/
def TQ (w : World) (g : Nat) (l : Int) (x : Option Addr) (n c : Nat) (z : Option Addr) (k d : Nat) (m : Int) : Prop :=
  w.cell? ⟨g, 0, none⟩ = some (.int .i64 l) ∧ w.cell? ⟨g, 1, none⟩ = some (.slice x n c) ∧ w.cell? ⟨g, 2, none⟩ = some (.slice z k d) ∧ w.cell? ⟨g, 3, none⟩ = some (.int .i64 m) ∧ g < w.heap.size
section
variable {w w' : World} {g : Nat} {l : Int} {x : Option Addr} {n c : Nat} {z : Option Addr} {k d : Nat} {m : Int}
theorem TQ.new (w : World) (l : Int) (x : Option Addr) (n c : Nat) (z : Option Addr) (k d : Nat) (m : Int) (t : TypeId) : TQ (w.alloc (.cells #[.int .i64 l, .slice x n c, .slice z k d, .int .i64 m] t)) w.heap.size l x n c z k d m := by
  have h := Wb.new w t #[.int .i64 l, .slice x n c, .slice z k d, .int .i64 m]
  exact ⟨(h.read 0).trans rfl, (h.read 1).trans rfl, (h.read 2).trans rfl, (h.read 3).trans rfl, h.inside⟩
theorem TQ.of_block (h : TQ w g l x n c z k d m) (e : w'.heap[g]? = w.heap[g]?) (hs : w.heap.size ≤ w'.heap.size) : TQ w' g l x n c z k d m :=
  ⟨(World.cell?_of_block (a := ⟨g, 0, none⟩) e).trans h.1, (World.cell?_of_block (a := ⟨g, 1, none⟩) e).trans h.2.1, (World.cell?_of_block (a := ⟨g, 2, none⟩) e).trans h.2.2.1, (World.cell?_of_block (a := ⟨g, 3, none⟩) e).trans h.2.2.2.1, Nat.lt_of_lt_of_le h.2.2.2.2 hs⟩
theorem TQ.below (h : TQ w g l x n c z k d m) (hb : Below w.heap.size w w') : TQ w' g l x n c z k d m := h.of_block (hb.block g h.2.2.2.2) hb.size
theorem TQ.grown {r : Option Nat} (h : TQ w g l x n c z k d m) (hg : w.grownBy w' r) (hne : some g ≠ r) : TQ w' g l x n c z k d m := h.of_block (hg.block g h.2.2.2.2 hne) hg.size
theorem TQ.off {lo hi : Nat} (h : TQ w g l x n c z k d m) (hg : Off lo hi w w') (hne : g < lo ∨ hi ≤ g) : TQ w' g l x n c z k d m := h.of_block (hg.block g h.2.2.2.2 hne) hg.size
end
theorem QB.off {w w' : World} {lo hi g : Nat} {y : Option Addr} {n c : Nat} (h : QB w g y n c) (hg : Off lo hi w w') (hne : g < lo ∨ hi ≤ g) : QB w' g y n c := by
  have e := hg.block g h.2.2 hne
  exact ⟨(World.cell?_of_block (a := ⟨g, 0, none⟩) e).trans h.1, (World.frozen?_of_block (a := ⟨g, 0, none⟩) e).trans h.2.1, Nat.lt_of_lt_of_le h.2.2 hg.size⟩
/-- A table's two lists that come in. -/
def TIn (w : World) (x z : Option Addr) (F W : List Int) : Prop := IIn w x F ∧ IIn w z W
theorem TIn.below {w w' : World} {x z : Option Addr} {F W : List Int} (h : TIn w x z F W) (hb : Below w.heap.size w w') : TIn w' x z F W := ⟨h.1.below hb, h.2.below hb⟩
/-- A table's two lists that are owned: apart from each other. -/
def OwT (w : World) (lo hi : Nat) (u v : Value) (F W : List Int) : Prop := ∃ mid, lo ≤ mid ∧ mid ≤ hi ∧ OwR w lo mid 3 1 u F.length (iC F) ∧ OwR w mid hi 3 1 v W.length (iC W)
section
variable {w w' : World} {lo hi : Nat} {u v : Value} {F W : List Int}
theorem OwT.below (h : OwT w lo hi u v F W) (hb : Below w.heap.size w w') : OwT w' lo hi u v F W := by
  obtain ⟨mid, h1, h2, a, b⟩ := h
  exact ⟨mid, h1, h2, a.below hb, b.below hb⟩
theorem OwT.off {lo2 hi2 : Nat} (h : OwT w lo hi u v F W) (hg : Off lo2 hi2 w w') (hne : hi ≤ lo2 ∨ hi2 ≤ lo) : OwT w' lo hi u v F W := by
  obtain ⟨mid, h1, h2, a, b⟩ := h
  exact ⟨mid, h1, h2, a.off hg (by omega), b.off hg (by omega)⟩
theorem OwT.keep {r : Option Nat} (h : OwT w lo hi u v F W) (hg : w.grownBy w' r) (hr : ∀ k, r = some k → k < lo ∨ hi ≤ k) : OwT w' lo hi u v F W := by
  obtain ⟨mid, h1, h2, a, b⟩ := h
  exact ⟨mid, h1, h2, a.keep hg (fun k hk => by have := hr k hk; omega), b.keep hg (fun k hk => by have := hr k hk; omega)⟩
end
theorem TIn.of_owT {w : World} {lo hi : Nat} {x z : Option Addr} {c d : Nat} {F W : List Int} (h : OwT w lo hi (.slice x F.length c) (.slice z W.length d) F W) (hF : F.length ≤ 1048576) (hW : W.length ≤ 1048576) (hnF : ∀ n ∈ F, IsI64 n) (hnW : ∀ n ∈ W, IsI64 n) : TIn w x z F W := by
  obtain ⟨mid, h1, h2, a, b⟩ := h
  exact ⟨⟨hF, hnF, a.rd⟩, ⟨hW, hnW, b.rd⟩⟩

/-- A size, in words that go on. -/
def SzQ (left : Int) (len : Nat) (w : World) (e : Ending) (w' : World) : Prop := ∃ r : Int, e = .returned (.int .i64 r) ∧ r ≤ left ∧ -1 ≤ r ∧ (0 ≤ r → r + len = left) ∧ Below w.heap.size w w'
theorem szGeo_x (y : Option Addr) (len cap : Nat) (left : Int) (w : World) (hl : 0 ≤ left) (h : left ≤ 1048576) (hm : len ≤ 9223372036854775807) :
    Calls Tryd.prog 5 #[.agg #[.slice y len cap], .int .i64 left] w (SzQ left len w) :=
  (szGeo_any y len cap left w hl h hm).mono fun e w' ⟨he, hb⟩ => ⟨szZ left len, he, by unfold szZ; split <;> omega, by unfold szZ; split <;> omega, by unfold szZ; split <;> omega, hb⟩
theorem szTable_x (l : Int) (x : Option Addr) (n c : Nat) (z : Option Addr) (k d : Nat) (m : Int) (left : Int) (w : World) (hl : 0 ≤ left) (h : left ≤ 1048576) (hn : n ≤ 9223372036854775807) (hk : k ≤ 9223372036854775807) :
    Calls Tryd.prog 7 #[.agg #[.int .i64 l, .slice x n c, .slice z k d, .int .i64 m], .int .i64 left] w (SzQ left (n + k) w) := by
  have hb := szZ_bd left n hl
  have e1 : szZ left n = -1 ∧ left < n ∨ szZ left n = left - n ∧ 0 ≤ left - n := by unfold szZ; split <;> omega
  by_cases hn1 : szZ left n < 0
  · go_enter Tryd.func7, Tryd.ntmps7
    go_wp2_with (go_at_call 18; refine (szIntS_any _ _ _ _ _ hl h hn).mono ?_; rintro e w1 ⟨rfl, rfl⟩)
    go_ret
    exact ⟨-1, rfl, by omega, by omega, by omega, (by repeat (first | exact Below.refl _ _ | assumption | refine Below.drew ?_ | refine below_drewN ?_ _ | refine Below.alloc' ?_ _ | (refine Below.setCell ?_ (by first | omega | (simp; done) | (simp; omega) | exact Below.size (by assumption) | exact Nat.le_trans (Below.size (by assumption)) (by simp)) _) | (refine Below.via' ?_ (by assumption)) | (refine Below.alloc ?_ (by first | omega | (simp; done) | (simp; omega) | exact Below.size (by assumption) | exact Nat.le_trans (Below.size (by assumption)) (by simp)) _) | (refine Below.via ?_ (by assumption) (by first | omega | (simp; done) | (simp; omega) | exact Below.size (by assumption) | exact Nat.le_trans (Below.size (by assumption)) (by simp)))))⟩
  have hl2 : 0 ≤ szZ left n := by omega
  have h2 : szZ left n ≤ 1048576 := by omega
  have e2 : szZ (szZ left n) k = -1 ∧ szZ left n < k ∨ szZ (szZ left n) k = szZ left n - k ∧ 0 ≤ szZ left n - k := by unfold szZ at hl2 ⊢; split <;> omega
  by_cases hn2 : szZ (szZ left n) k < 0
  · go_enter Tryd.func7, Tryd.ntmps7
    go_wp2_with fail
    refine (szIntS_any _ _ _ _ _ hl h hn).mono ?_
    rintro e w1 ⟨rfl, rfl⟩
    go_wp2_with fail
    refine (szIntS_any _ _ _ _ _ hl2 h2 hk).mono ?_
    rintro e w2 ⟨rfl, rfl⟩
    go_wp2
    go_ret
    exact ⟨-1, rfl, by omega, by omega, by omega, (by repeat (first | exact Below.refl _ _ | assumption | refine Below.drew ?_ | refine below_drewN ?_ _ | refine Below.alloc' ?_ _ | (refine Below.setCell ?_ (by first | omega | (simp; done) | (simp; omega) | exact Below.size (by assumption) | exact Nat.le_trans (Below.size (by assumption)) (by simp)) _) | (refine Below.via' ?_ (by assumption)) | (refine Below.alloc ?_ (by first | omega | (simp; done) | (simp; omega) | exact Below.size (by assumption) | exact Nat.le_trans (Below.size (by assumption)) (by simp)) _) | (refine Below.via ?_ (by assumption) (by first | omega | (simp; done) | (simp; omega) | exact Below.size (by assumption) | exact Nat.le_trans (Below.size (by assumption)) (by simp)))))⟩
  · go_enter Tryd.func7, Tryd.ntmps7
    go_wp2_with fail
    refine (szIntS_any _ _ _ _ _ hl h hn).mono ?_
    rintro e w1 ⟨rfl, rfl⟩
    go_wp2_with fail
    refine (szIntS_any _ _ _ _ _ hl2 h2 hk).mono ?_
    rintro e w2 ⟨rfl, rfl⟩
    go_wp2
    go_ret
    exact ⟨_, rfl, by omega, by omega, fun _ => by omega, (by repeat (first | exact Below.refl _ _ | assumption | refine Below.drew ?_ | refine below_drewN ?_ _ | refine Below.alloc' ?_ _ | (refine Below.setCell ?_ (by first | omega | (simp; done) | (simp; omega) | exact Below.size (by assumption) | exact Nat.le_trans (Below.size (by assumption)) (by simp)) _) | (refine Below.via' ?_ (by assumption)) | (refine Below.alloc ?_ (by first | omega | (simp; done) | (simp; omega) | exact Below.size (by assumption) | exact Nat.le_trans (Below.size (by assumption)) (by simp)) _) | (refine Below.via ?_ (by assumption) (by first | omega | (simp; done) | (simp; omega) | exact Below.size (by assumption) | exact Nat.le_trans (Below.size (by assumption)) (by simp)))))⟩

/-- A table that the law has copied. -/
def TbPost (l : Int) (F W : List Int) (m : Int) (w : World) (e : Ending) (w' : World) : Prop :=
  ∃ g f, e = .returned (.agg #[.int .i64 l, .slice (some ⟨g, 0, none⟩) F.length F.length, .slice (some ⟨f, 0, none⟩) W.length W.length, .int .i64 m]) ∧ OwT w' w.heap.size w'.heap.size (.slice (some ⟨g, 0, none⟩) F.length F.length) (.slice (some ⟨f, 0, none⟩) W.length W.length) F W ∧ Below w.heap.size w w'
set_option maxHeartbeats 2000000 in
theorem toTable_any (l : Int) (x z : Option Addr) (c d : Nat) (F W : List Int) (m : Int) (w : World) (hmF : F.length ≤ 1048576) (hmW : W.length ≤ 1048576) (hF : Rd w x (iC F)) (hW : Rd w z (iC W)) :
    Calls Tryd.prog 11 #[.agg #[.int .i64 l, .slice x F.length c, .slice z W.length d, .int .i64 m]] w (TbPost l F W m w) := by
  have hFh := Lib.hid hF
  have hWh := Lib.hid hW
  clear hF hW
  have hq := Lib.hid (TQ.new w l x F.length c z W.length d m 27)
  go_enter Tryd.func11, Tryd.ntmps11
  go_wp2_with fail
  refine (toIntS_any _ _ _ _ hmF (hFh.out.below (by exact (by repeat (first | exact Below.refl _ _ | assumption | refine Below.drew ?_ | refine below_drewN ?_ _ | refine Below.alloc' ?_ _ | (refine Below.setCell ?_ (by first | omega | (simp; done) | (simp; omega) | exact Below.size (by assumption) | exact Nat.le_trans (Below.size (by assumption)) (by simp)) _) | (refine Below.via' ?_ (by assumption)) | (refine Below.alloc ?_ (by first | omega | (simp; done) | (simp; omega) | exact Below.size (by assumption) | exact Nat.le_trans (Below.size (by assumption)) (by simp)) _) | (refine Below.via ?_ (by assumption) (by first | omega | (simp; done) | (simp; omega) | exact Below.size (by assumption) | exact Nat.le_trans (Below.size (by assumption)) (by simp)))))))).mono ?_
  rintro e w1 ⟨rfl, ho1, hb1⟩
  obtain ⟨hcl1, hfr1⟩ := bcell hb1
  have hz1 := hb1.size; (try simp at hz1); (try (have hly1 := Nat.lt_of_succ_le hz1)); (try (have hlx1 := Nat.lt_of_succ_lt hly1)); (try (have hlw1 := Nat.lt_of_succ_lt hlx1)); (try (have hle1 := Nat.le_of_lt hly1))
  have hoh := Lib.hid ho1
  clear ho1
  have B1 : Below w.heap.size w w1 := (by repeat (first | exact Below.refl _ _ | assumption | refine Below.drew ?_ | refine below_drewN ?_ _ | refine Below.alloc' ?_ _ | (refine Below.setCell ?_ (by first | omega | (simp; done) | (simp; omega) | exact Below.size (by assumption) | exact Nat.le_trans (Below.size (by assumption)) (by simp)) _) | (refine Below.via' ?_ (by assumption)) | (refine Below.alloc ?_ (by first | omega | (simp; done) | (simp; omega) | exact Below.size (by assumption) | exact Nat.le_trans (Below.size (by assumption)) (by simp)) _) | (refine Below.via ?_ (by assumption) (by first | omega | (simp; done) | (simp; omega) | exact Below.size (by assumption) | exact Nat.le_trans (Below.size (by assumption)) (by simp)))))
  have hb1 := Lib.hid hb1
  go_wp2_with fail
  refine (toIntS_any _ _ _ _ hmW (hWh.out.below (by exact (by repeat (first | exact Below.refl _ _ | assumption | refine Below.drew ?_ | refine below_drewN ?_ _ | refine Below.alloc' ?_ _ | (refine Below.setCell ?_ (by first | omega | (simp; done) | (simp; omega) | exact Below.size (by assumption) | exact Nat.le_trans (Below.size (by assumption)) (by simp)) _) | (refine Below.via' ?_ (by assumption)) | (refine Below.alloc ?_ (by first | omega | (simp; done) | (simp; omega) | exact Below.size (by assumption) | exact Nat.le_trans (Below.size (by assumption)) (by simp)) _) | (refine Below.via ?_ (by assumption) (by first | omega | (simp; done) | (simp; omega) | exact Below.size (by assumption) | exact Nat.le_trans (Below.size (by assumption)) (by simp)))))))).mono ?_
  rintro e w2 ⟨rfl, ho2, hb2⟩
  simp only [World.size_setCell] at ho2
  obtain ⟨hcl2, hfr2⟩ := bcell hb2
  have hz2 := hb2.size
  simp at hz2
  have hl2 : w.heap.size + 1 + 1 < w2.heap.size := by omega
  have hl3 : w.heap.size + 1 < w2.heap.size := by omega
  have hl4 : w.heap.size < w2.heap.size := by omega
  have hlt2 : w1.heap.size < w2.heap.size := (own_lt ho2).2
  have ho2h := Lib.hid ho2
  clear ho2
  have B2 : Below w.heap.size w w2 := (by repeat (first | exact Below.refl _ _ | assumption | refine Below.drew ?_ | refine below_drewN ?_ _ | refine Below.alloc' ?_ _ | (refine Below.setCell ?_ (by first | omega | (simp; done) | (simp; omega) | exact Below.size (by assumption) | exact Nat.le_trans (Below.size (by assumption)) (by simp)) _) | (refine Below.via' ?_ (by assumption)) | (refine Below.alloc ?_ (by first | omega | (simp; done) | (simp; omega) | exact Below.size (by assumption) | exact Nat.le_trans (Below.size (by assumption)) (by simp)) _) | (refine Below.via ?_ (by assumption) (by first | omega | (simp; done) | (simp; omega) | exact Below.size (by assumption) | exact Nat.le_trans (Below.size (by assumption)) (by simp)))))
  have ho3 : w1.ownsRow (w.heap.size + 1 + 1 + 1) 3 1 (.slice (some ⟨w.heap.size + 1 + 1 + 1, 0, none⟩) F.length F.length) F.length (iC F) := by simpa using hoh.out
  have ho4 : w2.ownsRow (w.heap.size + 1 + 1 + 1) 3 1 (.slice (some ⟨w.heap.size + 1 + 1 + 1, 0, none⟩) F.length F.length) F.length (iC F) := own_below (ownsRow_setCell_below ho3 (by simp) _) hb2
  have ho4 := Lib.hid ho4
  have hz1' : w.heap.size + 1 + 1 + 1 < w1.heap.size := (own_lt ho3).2
  clear ho3 hoh
  go_wp2
  refine bodyPost_ret (v := .agg #[.int .i64 l, .slice (some ⟨w.heap.size + 1 + 1 + 1, 0, none⟩) F.length F.length, .slice (some ⟨w1.heap.size, 0, none⟩) W.length W.length, .int .i64 m]) (by simp [results, Tryd.results11, go_sem, *]) rfl ⟨_, _, rfl, ⟨w1.heap.size, by omega, by simp; omega, ⟨?_, ?_⟩, ⟨?_, ?_⟩⟩, ?_⟩
  · refine own_more (base := w.heap.size + 1 + 1 + 1) ?_ (by omega)
    repeat (refine ownsRow_setCell_below ?_ (by simp; try omega) _)
    exact ho4.out
  · intro k hk
    obtain rfl : w.heap.size + 1 + 1 + 1 = k := by injection hk
    omega
  · repeat (refine ownsRow_setCell_below ?_ (by simp; try omega) _)
    exact ho2h.out
  · intro k hk
    obtain rfl : w1.heap.size = k := by injection hk
    simp only [World.size_setCell]
    exact ⟨Nat.le_refl _, hlt2⟩
  · repeat (refine Below.setCell ?_ (by simp; try omega) _)
    exact B2

theorem eqTable_any (x z x2 z2 : Option Addr) {c d c2 d2 : Nat} (l m : Int) (F W : List Int) (w : World) (hmF : F.length ≤ 9223372036854775807) (hmW : W.length ≤ 9223372036854775807) (hX : TIn w x z F W) (hY : TIn w x2 z2 F W) :
    Calls Tryd.prog 15 #[.agg #[.int .i64 l, .slice x F.length c, .slice z W.length d, .int .i64 m], .agg #[.int .i64 l, .slice x2 F.length c2, .slice z2 W.length d2, .int .i64 m]] w fun e w' => e = .returned (.bool true) ∧ Below w.heap.size w w' := by
  have hXh := Lib.hid hX
  have hYh := Lib.hid hY
  have q1 := Lib.hid (TQ.new w l x F.length c z W.length d m 37)
  have q2 := Lib.hid (TQ.new (w.alloc (.cells #[.int .i64 l, .slice x F.length c, .slice z W.length d, .int .i64 m] 37)) l x2 F.length c2 z2 W.length d2 m 37)
  have q1 := Lib.hid (q1.out.below (show Below (w.alloc (.cells #[.int .i64 l, .slice x F.length c, .slice z W.length d, .int .i64 m] 37)).heap.size (w.alloc (.cells #[.int .i64 l, .slice x F.length c, .slice z W.length d, .int .i64 m] 37)) ((w.alloc (.cells #[.int .i64 l, .slice x F.length c, .slice z W.length d, .int .i64 m] 37)).alloc (.cells #[.int .i64 l, .slice x2 F.length c2, .slice z2 W.length d2, .int .i64 m] 37)) from (by repeat (first | exact Below.refl _ _ | assumption | refine Below.drew ?_ | refine below_drewN ?_ _ | refine Below.alloc' ?_ _ | (refine Below.setCell ?_ (by first | omega | (simp; done) | (simp; omega) | exact Below.size (by assumption) | exact Nat.le_trans (Below.size (by assumption)) (by simp)) _) | (refine Below.via' ?_ (by assumption)) | (refine Below.alloc ?_ (by first | omega | (simp; done) | (simp; omega) | exact Below.size (by assumption) | exact Nat.le_trans (Below.size (by assumption)) (by simp)) _) | (refine Below.via ?_ (by assumption) (by first | omega | (simp; done) | (simp; omega) | exact Below.size (by assumption) | exact Nat.le_trans (Below.size (by assumption)) (by simp)))))))
  replace q2 := q2.out
  rw [World.size_alloc] at q2
  replace q2 := Lib.hid q2
  clear hX hY
  go_enter Tryd.func15, Tryd.ntmps15
  go_wp2_with fail
  refine (eqIntS_any _ _ _ _ _ _ hmF (hXh.out.1.2.2.below (by exact (by repeat (first | exact Below.refl _ _ | assumption | refine Below.drew ?_ | refine below_drewN ?_ _ | refine Below.alloc' ?_ _ | (refine Below.setCell ?_ (by first | omega | (simp; done) | (simp; omega) | exact Below.size (by assumption) | exact Nat.le_trans (Below.size (by assumption)) (by simp)) _) | (refine Below.via' ?_ (by assumption)) | (refine Below.alloc ?_ (by first | omega | (simp; done) | (simp; omega) | exact Below.size (by assumption) | exact Nat.le_trans (Below.size (by assumption)) (by simp)) _) | (refine Below.via ?_ (by assumption) (by first | omega | (simp; done) | (simp; omega) | exact Below.size (by assumption) | exact Nat.le_trans (Below.size (by assumption)) (by simp))))))) (hYh.out.1.2.2.below (by exact (by repeat (first | exact Below.refl _ _ | assumption | refine Below.drew ?_ | refine below_drewN ?_ _ | refine Below.alloc' ?_ _ | (refine Below.setCell ?_ (by first | omega | (simp; done) | (simp; omega) | exact Below.size (by assumption) | exact Nat.le_trans (Below.size (by assumption)) (by simp)) _) | (refine Below.via' ?_ (by assumption)) | (refine Below.alloc ?_ (by first | omega | (simp; done) | (simp; omega) | exact Below.size (by assumption) | exact Nat.le_trans (Below.size (by assumption)) (by simp)) _) | (refine Below.via ?_ (by assumption) (by first | omega | (simp; done) | (simp; omega) | exact Below.size (by assumption) | exact Nat.le_trans (Below.size (by assumption)) (by simp)))))))).mono ?_
  rintro e w1 ⟨rfl, hb1⟩
  have B1 : Below w.heap.size w w1 := (by repeat (first | exact Below.refl _ _ | assumption | refine Below.drew ?_ | refine below_drewN ?_ _ | refine Below.alloc' ?_ _ | (refine Below.setCell ?_ (by first | omega | (simp; done) | (simp; omega) | exact Below.size (by assumption) | exact Nat.le_trans (Below.size (by assumption)) (by simp)) _) | (refine Below.via' ?_ (by assumption)) | (refine Below.alloc ?_ (by first | omega | (simp; done) | (simp; omega) | exact Below.size (by assumption) | exact Nat.le_trans (Below.size (by assumption)) (by simp)) _) | (refine Below.via ?_ (by assumption) (by first | omega | (simp; done) | (simp; omega) | exact Below.size (by assumption) | exact Nat.le_trans (Below.size (by assumption)) (by simp)))))
  have p1 := Lib.hid (q1.out.below hb1)
  have p2 := Lib.hid (q2.out.below hb1)
  obtain ⟨pa, pb, pc, pd, pe⟩ := p1.out
  obtain ⟨qa, qb, qc, qd, qe⟩ := p2.out
  clear q1 q2
  go_wp2_with fail
  refine (eqIntS_any _ _ _ _ _ _ hmW (hXh.out.2.2.2.below B1) (hYh.out.2.2.2.below B1)).mono ?_
  rintro e w2 ⟨rfl, hb2⟩
  obtain ⟨pa2, pb2, pc2, pd2, pe2⟩ := p1.out.below hb2
  obtain ⟨qa2, qb2, qc2, qd2, qe2⟩ := p2.out.below hb2
  clear pa pb pc pd qa qb qc qd
  go_wp2
  go_ret
  exact ⟨rfl, (by repeat (first | exact Below.refl _ _ | assumption | refine Below.drew ?_ | refine below_drewN ?_ _ | refine Below.alloc' ?_ _ | (refine Below.setCell ?_ (by first | omega | (simp; done) | (simp; omega) | exact Below.size (by assumption) | exact Nat.le_trans (Below.size (by assumption)) (by simp)) _) | (refine Below.via' ?_ (by assumption)) | (refine Below.alloc ?_ (by first | omega | (simp; done) | (simp; omega) | exact Below.size (by assumption) | exact Nat.le_trans (Below.size (by assumption)) (by simp)) _) | (refine Below.via ?_ (by assumption) (by first | omega | (simp; done) | (simp; omega) | exact Below.size (by assumption) | exact Nat.le_trans (Below.size (by assumption)) (by simp)))))⟩

theorem cellsT : Tryd.prog.cellsOf 27 = 4 := by kernel_rfl
/-- A table that comes in. -/
theorem open_table {H : Type} {enc : TypeId × Value → H} {W : World} {base : Nat} {v : Value} {d : DataW H} {p : List MemPlace} (hv : Value.okWide Tryd.prog W .any base 27 v)
    (h : DataW.Trod enc Tryd.prog W 0 (fun _ => true) true 27 v d p) : ∃ l x c F z e V m, v = .agg #[.int .i64 l, .slice x F.length c, .slice z V.length e, .int .i64 m] ∧ F.length ≤ 9223372036854775807 ∧ Hid (∀ n ∈ F, IsI64 n) ∧ Hid (Rd W x (iC F)) ∧ V.length ≤ 9223372036854775807 ∧ Hid (∀ n ∈ V, IsI64 n) ∧ Hid (Rd W z (iC V)) := by
  obtain ⟨c0, c1, c2, c3, y0, y1, y2, y3, n, rfl, rfl, rfl, hy0, hy1, hy2, hy3⟩ := open_agg4 Tryd.underlying27 (by kernel_rfl) cellsT hv h
  obtain ⟨a, e0, rfl, wa⟩ := DataW.trod_int Tryd.underlying3 hy0
  obtain ⟨b, e3, rfl, wb⟩ := DataW.trod_int Tryd.underlying3 hy3
  obtain ⟨x, c, F, hcs, hl, hn, hr⟩ := open_intC hy1
  obtain ⟨z, e, V, hcs2, hl2, hn2, hr2⟩ := open_intC hy2
  simp at e0 e3 hcs hcs2
  subst e0 e3 hcs hcs2
  exact ⟨a, x, c, F, z, e, V, b, rfl, hl, hn, hr, hl2, hn2, hr2⟩
end Go.Proofs.YtgkaalonmkcclaaDoor

namespace Go.Proofs.YtgkaalonmkcclaaDoor
open Go.RowKit
set_option maxRecDepth 100000

/-- Conditions and values that go with each other. -/
def TwF (W V : List Int) : Prop := W.length = V.length ∧ ∀ i, i < W.length → ∃ x v, W[i]? = some x ∧ V[i]? = some v ∧ 0 ≤ x ∧ x ≤ 255 ∧ 0 ≤ v ∧ v ≤ 8
theorem tw_fine {S : List (ByteArray × Int)} {W V : List Int} (hs : schB S = true) (hw : twB S W = true) (hf : fitB S V = true) : TwF W V := by
  have h1 := tw_len hw
  have h2 := fit_len hf
  refine ⟨by omega, fun i hi => ?_⟩
  have hW : W[i]? = some W[i] := List.getElem?_eq_getElem hi
  have hV : V[i]? = some (V[i]'(by omega)) := List.getElem?_eq_getElem _
  obtain ⟨nm, lv, hS, l1, l2, x0, -, x1⟩ := tw_get hs hw hW
  have := fit_get hf hS hV
  exact ⟨_, _, hW, hV, x0, x1, this.1, by omega⟩
theorem tw_pow {lv : Int} (h : 2 ≤ lv ∧ lv ≤ 8) : wrap64 (wrap64 (2 ^ lv.toNat) - 1) = 2 ^ lv.toNat - 1 := fl_eq h
theorem tw_kd {lv x : Int} (hx : x ≠ 0) : (kdZ lv x == 0) = !inB x 0 (2 ^ lv.toNat - 1) := by
  cases h : inB x 0 (2 ^ lv.toNat - 1)
  · rw [kdZ_no (by rw [inB_no] at h; unfold flZ; omega)]
    rfl
  · rw [inB_iff] at h
    have := kdZ_yes (lv := lv) (x := x) ⟨by omega, h.2⟩
    show (kdZ lv x == 0) = false
    rw [beq_eq_false_iff_ne]
    omega

set_option maxHeartbeats 2000000 in
theorem areCond_any (x y : Option Addr) (c1 c2 : Nat) (S : List (ByteArray × Int)) (W : List Int) (w : World) (hs : schB S = true) (hm : S.length ≤ 1048576) (hS : Rd w x (vC S)) (hW : IIn w y W) :
    Calls Tryd.prog 53 #[.slice x S.length c1, .slice y W.length c2] w fun e w' => e = .returned (.bool (twB S W)) ∧ Below w.heap.size w w' := by
  have hWl := hW.1
  have hWh := Lib.hid hW.2.2
  clear hW
  have hSh := Lib.hid hS
  clear hS
  have hsh := Lib.hid hs
  clear hs
  by_cases hl : W.length = S.length
  · have he1 : ((W.length : Int) == (S.length : Int)) = true := by rw [beq_iff_eq]; omega
    have he2 : ((W.length : Int) != (S.length : Int)) = false := by show (!((W.length : Int) == (S.length : Int))) = false; rw [he1]; rfl
    replace hl := Lib.hid hl
    go_enter Tryd.func53, Tryd.ntmps53
    go_wp2
    clear he1 he2
    go_loopw [14] (fun c wr => ∃ i : Nat, i ≤ S.length ∧ c = .int .i64 i ∧ Hid (∀ j, j < i → ∃ nm lv x, S[j]? = some (nm, lv) ∧ W[j]? = some x ∧ inB x 0 (2 ^ lv.toNat - 1) = true) ∧ Below w.heap.size w wr) (fun c _ => S.length - (intOf c).toNat)
    case atStart => exact ⟨0, by omega, rfl, (fun j hj => absurd hj (by omega)), Below.refl _ _⟩
    case round =>
      obtain ⟨i, hi, rfl, hall, hb⟩ := hrel
      by_cases hlt : i < S.length
      · obtain ⟨bl, off, nm, lv, rfl, hbl, hSi, hc0, hc1⟩ := (hSh.out.below hb).var hlt
        obtain ⟨bl2, off2, v, rfl, hbl2, hWi, hc2⟩ := (hWh.out.below hb).int (i := i) (by have := hl.out; omega)
        have l12 := schB_lv hsh.out hSi
        have hlt' : (i : Int) < (S.length : Int) := by omega
        have hlt2 : (i : Int) < (W.length : Int) := by have := hl.out; omega
        have hi0 : (0 : Int) ≤ (i : Int) := by omega
        by_cases h0 : v = 0
        · have hin : inB v 0 (2 ^ lv.toNat - 1) = true := by
            rw [inB_iff]
            have := flZ_bd l12
            unfold flZ at this
            omega
          have hin := Lib.hid hin
          have hz : (v != 0) = false := by rw [h0]; rfl
          replace h0 := Lib.hid h0
          replace hSi := Lib.hid hSi
          replace hWi := Lib.hid hWi
          go_wp2
          first | go_quiet (fail) | fail
          go_wp2
          go_roundw
          case rel =>
            refine ⟨i + 1, by omega, by go_num, fun j hj => ?_, (by repeat (first | exact Below.refl _ _ | assumption | refine Below.drew ?_ | refine below_drewN ?_ _ | refine Below.alloc' ?_ _ | (refine Below.setCell ?_ (by first | omega | (simp; done) | (simp; omega) | exact Below.size (by assumption) | exact Nat.le_trans (Below.size (by assumption)) (by simp)) _) | (refine Below.via' ?_ (by assumption)) | (refine Below.alloc ?_ (by first | omega | (simp; done) | (simp; omega) | exact Below.size (by assumption) | exact Nat.le_trans (Below.size (by assumption)) (by simp)) _) | (refine Below.via ?_ (by assumption) (by first | omega | (simp; done) | (simp; omega) | exact Below.size (by assumption) | exact Nat.le_trans (Below.size (by assumption)) (by simp)))))⟩
            rcases Nat.lt_or_ge j i with hj2 | hj2
            · exact hall.out j hj2
            · obtain rfl : j = i := by omega
              exact ⟨nm, lv, v, hSi.out, hWi.out, hin.out⟩
          case measure => simp [intOf]; omega
        have hz : (v != 0) = true := by simpa using h0
        have hkd := tw_kd (lv := lv) h0
        replace h0 := Lib.hid h0
        cases hin : inB v 0 (2 ^ lv.toNat - 1)
        · have hv := Lib.hid (tw_bad hSi hWi hin)
          rw [hin] at hkd
          have hkd : (kdZ lv v == 0) = true := hkd
          replace hSi := Lib.hid hSi
          replace hWi := Lib.hid hWi
          replace hin := Lib.hid hin
          go_wp2
          go_region_held3 (fun w' => Below ((wr.alloc (.cells #[.string nm, .int .i64 lv] 52))).heap.size ((wr.alloc (.cells #[.string nm, .int .i64 lv] 52))) w' ∧ (∀ b o, b < ((wr.alloc (.cells #[.string nm, .int .i64 lv] 52))).heap.size → w'.cell? ⟨b, o, none⟩ = ((wr.alloc (.cells #[.string nm, .int .i64 lv] 52))).cell? ⟨b, o, none⟩)) (first | exact keep_of (Below.refl _ _) | ((try go_split_ands); exact keep_of (by repeat (first | exact Below.refl _ _ | assumption | refine Below.drew ?_ | refine below_drewN ?_ _ | refine Below.alloc' ?_ _ | (refine Below.setCell ?_ (by first | omega | (simp; done) | (simp; omega) | exact Below.size (by assumption) | exact Nat.le_trans (Below.size (by assumption)) (by simp)) _) | (refine Below.via' ?_ (by assumption)) | (refine Below.alloc ?_ (by first | omega | (simp; done) | (simp; omega) | exact Below.size (by assumption) | exact Nat.le_trans (Below.size (by assumption)) (by simp)) _) | (refine Below.via ?_ (by assumption) (by first | omega | (simp; done) | (simp; omega) | exact Below.size (by assumption) | exact Nat.le_trans (Below.size (by assumption)) (by simp))))))) ((go_at_call 70; refine (kindOfSet_any _ _ _ _ l12).mono ?_; rintro e w1 ⟨rfl, hb1⟩)); rename_i hH; obtain ⟨hb1, hcl1⟩ := hH; have hz1 := hb1.size; (try simp at hz1); (try (have hly1 := Nat.lt_of_succ_le hz1)); (try (have hlx1 := Nat.lt_of_succ_lt hly1)); (try (have hlw1 := Nat.lt_of_succ_lt hlx1)); (try (have hle1 := Nat.le_of_lt hly1)); (try (have hya1 : w.heap.size < w1.heap.size := by omega)); (try (have hyb1 : w.heap.size + 1 < w1.heap.size := by omega)); (try (have hyc1 : w.heap.size + 1 + 1 < w1.heap.size := by omega)); (try (have hyd1 : wa.heap.size < w1.heap.size := by omega))
          go_wp2
          go_ret
          exact ⟨ret_bool hv.out.symm, (by repeat (first | exact Below.refl _ _ | assumption | refine Below.drew ?_ | refine below_drewN ?_ _ | refine Below.alloc' ?_ _ | (refine Below.setCell ?_ (by first | omega | (simp; done) | (simp; omega) | exact Below.size (by assumption) | exact Nat.le_trans (Below.size (by assumption)) (by simp)) _) | (refine Below.via' ?_ (by assumption)) | (refine Below.alloc ?_ (by first | omega | (simp; done) | (simp; omega) | exact Below.size (by assumption) | exact Nat.le_trans (Below.size (by assumption)) (by simp)) _) | (refine Below.via ?_ (by assumption) (by first | omega | (simp; done) | (simp; omega) | exact Below.size (by assumption) | exact Nat.le_trans (Below.size (by assumption)) (by simp)))))⟩
        · rw [hin] at hkd
          have hkd : (kdZ lv v == 0) = false := hkd
          replace hSi := Lib.hid hSi
          replace hWi := Lib.hid hWi
          replace hin := Lib.hid hin
          go_wp2
          go_region_held3 (fun w' => Below ((wr.alloc (.cells #[.string nm, .int .i64 lv] 52))).heap.size ((wr.alloc (.cells #[.string nm, .int .i64 lv] 52))) w' ∧ (∀ b o, b < ((wr.alloc (.cells #[.string nm, .int .i64 lv] 52))).heap.size → w'.cell? ⟨b, o, none⟩ = ((wr.alloc (.cells #[.string nm, .int .i64 lv] 52))).cell? ⟨b, o, none⟩)) (first | exact keep_of (Below.refl _ _) | ((try go_split_ands); exact keep_of (by repeat (first | exact Below.refl _ _ | assumption | refine Below.drew ?_ | refine below_drewN ?_ _ | refine Below.alloc' ?_ _ | (refine Below.setCell ?_ (by first | omega | (simp; done) | (simp; omega) | exact Below.size (by assumption) | exact Nat.le_trans (Below.size (by assumption)) (by simp)) _) | (refine Below.via' ?_ (by assumption)) | (refine Below.alloc ?_ (by first | omega | (simp; done) | (simp; omega) | exact Below.size (by assumption) | exact Nat.le_trans (Below.size (by assumption)) (by simp)) _) | (refine Below.via ?_ (by assumption) (by first | omega | (simp; done) | (simp; omega) | exact Below.size (by assumption) | exact Nat.le_trans (Below.size (by assumption)) (by simp))))))) ((go_at_call 70; refine (kindOfSet_any _ _ _ _ l12).mono ?_; rintro e w1 ⟨rfl, hb1⟩)); rename_i hH; obtain ⟨hb1, hcl1⟩ := hH; have hz1 := hb1.size; (try simp at hz1); (try (have hly1 := Nat.lt_of_succ_le hz1)); (try (have hlx1 := Nat.lt_of_succ_lt hly1)); (try (have hlw1 := Nat.lt_of_succ_lt hlx1)); (try (have hle1 := Nat.le_of_lt hly1)); (try (have hya1 : w.heap.size < w1.heap.size := by omega)); (try (have hyb1 : w.heap.size + 1 < w1.heap.size := by omega)); (try (have hyc1 : w.heap.size + 1 + 1 < w1.heap.size := by omega)); (try (have hyd1 : wa.heap.size < w1.heap.size := by omega))
          go_wp2
          go_roundw
          case rel =>
            refine ⟨i + 1, by omega, by go_num, fun j hj => ?_, (by repeat (first | exact Below.refl _ _ | assumption | refine Below.drew ?_ | refine below_drewN ?_ _ | refine Below.alloc' ?_ _ | (refine Below.setCell ?_ (by first | omega | (simp; done) | (simp; omega) | exact Below.size (by assumption) | exact Nat.le_trans (Below.size (by assumption)) (by simp)) _) | (refine Below.via' ?_ (by assumption)) | (refine Below.alloc ?_ (by first | omega | (simp; done) | (simp; omega) | exact Below.size (by assumption) | exact Nat.le_trans (Below.size (by assumption)) (by simp)) _) | (refine Below.via ?_ (by assumption) (by first | omega | (simp; done) | (simp; omega) | exact Below.size (by assumption) | exact Nat.le_trans (Below.size (by assumption)) (by simp)))))⟩
            rcases Nat.lt_or_ge j i with hj2 | hj2
            · exact hall.out j hj2
            · obtain rfl : j = i := by omega
              exact ⟨nm, lv, v, hSi.out, hWi.out, hin.out⟩
          case measure => simp [intOf]; omega
      · have hij : i = S.length := by omega
        subst hij
        have hv := Lib.hid (tw_all hl.out hall.out)
        clear hall
        go_wp2
        go_ret
        exact ⟨ret_bool hv.out.symm, (by repeat (first | exact Below.refl _ _ | assumption | refine Below.drew ?_ | refine below_drewN ?_ _ | refine Below.alloc' ?_ _ | (refine Below.setCell ?_ (by first | omega | (simp; done) | (simp; omega) | exact Below.size (by assumption) | exact Nat.le_trans (Below.size (by assumption)) (by simp)) _) | (refine Below.via' ?_ (by assumption)) | (refine Below.alloc ?_ (by first | omega | (simp; done) | (simp; omega) | exact Below.size (by assumption) | exact Nat.le_trans (Below.size (by assumption)) (by simp)) _) | (refine Below.via ?_ (by assumption) (by first | omega | (simp; done) | (simp; omega) | exact Below.size (by assumption) | exact Nat.le_trans (Below.size (by assumption)) (by simp)))))⟩
  · have hv := Lib.hid (tw_no hl)
    have hne : ((W.length : Int) == (S.length : Int)) = false := by rw [beq_eq_false_iff_ne]; omega
    go_enter Tryd.func53, Tryd.ntmps53
    go_wp2
    go_ret
    exact ⟨ret_bool hv.out.symm, (by repeat (first | exact Below.refl _ _ | assumption | refine Below.drew ?_ | refine below_drewN ?_ _ | refine Below.alloc' ?_ _ | (refine Below.setCell ?_ (by first | omega | (simp; done) | (simp; omega) | exact Below.size (by assumption) | exact Nat.le_trans (Below.size (by assumption)) (by simp)) _) | (refine Below.via' ?_ (by assumption)) | (refine Below.alloc ?_ (by first | omega | (simp; done) | (simp; omega) | exact Below.size (by assumption) | exact Nat.le_trans (Below.size (by assumption)) (by simp)) _) | (refine Below.via ?_ (by assumption) (by first | omega | (simp; done) | (simp; omega) | exact Below.size (by assumption) | exact Nat.le_trans (Below.size (by assumption)) (by simp)))))⟩

set_option maxHeartbeats 2000000 in
theorem uWhere_any (x y : Option Addr) (c1 c2 : Nat) (S : List (ByteArray × Int)) (W : List Int) (w : World) (hs : schB S = true) (hm : S.length ≤ 1048576) (hS : Rd w x (vC S)) (hW : IIn w y W) :
    Calls Tryd.prog 38 #[.slice x S.length c1, .slice y W.length c2] w fun e w' => e = .returned (.bool (twB S W)) ∧ Below w.heap.size w w' := by
  have hWl := hW.1
  have hWh := Lib.hid hW.2.2
  clear hW
  have hSh := Lib.hid hS
  clear hS
  have hsh := Lib.hid hs
  clear hs
  by_cases hl : W.length = S.length
  · have he1 : ((W.length : Int) == (S.length : Int)) = true := by rw [beq_iff_eq]; omega
    have he2 : ((W.length : Int) != (S.length : Int)) = false := by show (!((W.length : Int) == (S.length : Int))) = false; rw [he1]; rfl
    replace hl := Lib.hid hl
    go_enter Tryd.func38, Tryd.ntmps38
    go_wp2
    clear he1 he2
    go_loopw [14] (fun c wr => ∃ i : Nat, i ≤ S.length ∧ c = .int .i64 i ∧ Hid (∀ j, j < i → ∃ nm lv x, S[j]? = some (nm, lv) ∧ W[j]? = some x ∧ inB x 0 (2 ^ lv.toNat - 1) = true) ∧ Below w.heap.size w wr) (fun c _ => S.length - (intOf c).toNat)
    case atStart => exact ⟨0, by omega, rfl, (fun j hj => absurd hj (by omega)), Below.refl _ _⟩
    case round =>
      obtain ⟨i, hi, rfl, hall, hb⟩ := hrel
      by_cases hlt : i < S.length
      · obtain ⟨bl, off, nm, lv, rfl, hbl, hSi, hc0, hc1⟩ := (hSh.out.below hb).var hlt
        obtain ⟨bl2, off2, v, rfl, hbl2, hWi, hc2⟩ := (hWh.out.below hb).int (i := i) (by have := hl.out; omega)
        have l12 := schB_lv hsh.out hSi
        have hpw := tw_pow l12
        have l1 := l12.1
        have l2 := l12.2
        have hlt' : (i : Int) < (S.length : Int) := by omega
        have hlt2 : (i : Int) < (W.length : Int) := by have := hl.out; omega
        have hi0 : (0 : Int) ≤ (i : Int) := by omega
        have hcv : IntKind.u64.wrap lv = lv := by rw [show IntKind.u64.wrap lv = lv % 18446744073709551616 by simp [IntKind.wrap, IntKind.bits, IntKind.signed]]; omega
        cases hin : inB v 0 (2 ^ lv.toNat - 1)
        · have hv := Lib.hid (tw_bad hSi hWi hin)
          rw [← hpw] at hin
          replace hpw := Lib.hid hpw
          replace hSi := Lib.hid hSi
          replace hWi := Lib.hid hWi
          go_wp2
          go_quiet (first | (go_at_call 28; exact Calls.quiet_of_same ((l1In_any _ _ _ _).mono fun _ _ h => ⟨h.1, h.2.symm⟩)))
          go_wp2
          go_ret
          exact ⟨ret_bool hv.out.symm, (by repeat (first | exact Below.refl _ _ | assumption | refine Below.drew ?_ | refine below_drewN ?_ _ | refine Below.alloc' ?_ _ | (refine Below.setCell ?_ (by first | omega | (simp; done) | (simp; omega) | exact Below.size (by assumption) | exact Nat.le_trans (Below.size (by assumption)) (by simp)) _) | (refine Below.via' ?_ (by assumption)) | (refine Below.alloc ?_ (by first | omega | (simp; done) | (simp; omega) | exact Below.size (by assumption) | exact Nat.le_trans (Below.size (by assumption)) (by simp)) _) | (refine Below.via ?_ (by assumption) (by first | omega | (simp; done) | (simp; omega) | exact Below.size (by assumption) | exact Nat.le_trans (Below.size (by assumption)) (by simp)))))⟩
        · have hin2 := Lib.hid hin
          rw [← hpw] at hin
          replace hpw := Lib.hid hpw
          replace hSi := Lib.hid hSi
          replace hWi := Lib.hid hWi
          go_wp2
          go_quiet (first | (go_at_call 28; exact Calls.quiet_of_same ((l1In_any _ _ _ _).mono fun _ _ h => ⟨h.1, h.2.symm⟩)))
          go_wp2
          go_roundw
          case rel =>
            refine ⟨i + 1, by omega, by go_num, fun j hj => ?_, (by repeat (first | exact Below.refl _ _ | assumption | refine Below.drew ?_ | refine below_drewN ?_ _ | refine Below.alloc' ?_ _ | (refine Below.setCell ?_ (by first | omega | (simp; done) | (simp; omega) | exact Below.size (by assumption) | exact Nat.le_trans (Below.size (by assumption)) (by simp)) _) | (refine Below.via' ?_ (by assumption)) | (refine Below.alloc ?_ (by first | omega | (simp; done) | (simp; omega) | exact Below.size (by assumption) | exact Nat.le_trans (Below.size (by assumption)) (by simp)) _) | (refine Below.via ?_ (by assumption) (by first | omega | (simp; done) | (simp; omega) | exact Below.size (by assumption) | exact Nat.le_trans (Below.size (by assumption)) (by simp)))))⟩
            rcases Nat.lt_or_ge j i with hj2 | hj2
            · exact hall.out j hj2
            · obtain rfl : j = i := by omega
              exact ⟨nm, lv, v, hSi.out, hWi.out, hin2.out⟩
          case measure => simp [intOf]; omega
      · have hij : i = S.length := by omega
        subst hij
        have hv := Lib.hid (tw_all hl.out hall.out)
        clear hall
        go_wp2
        go_ret
        exact ⟨ret_bool hv.out.symm, (by repeat (first | exact Below.refl _ _ | assumption | refine Below.drew ?_ | refine below_drewN ?_ _ | refine Below.alloc' ?_ _ | (refine Below.setCell ?_ (by first | omega | (simp; done) | (simp; omega) | exact Below.size (by assumption) | exact Nat.le_trans (Below.size (by assumption)) (by simp)) _) | (refine Below.via' ?_ (by assumption)) | (refine Below.alloc ?_ (by first | omega | (simp; done) | (simp; omega) | exact Below.size (by assumption) | exact Nat.le_trans (Below.size (by assumption)) (by simp)) _) | (refine Below.via ?_ (by assumption) (by first | omega | (simp; done) | (simp; omega) | exact Below.size (by assumption) | exact Nat.le_trans (Below.size (by assumption)) (by simp)))))⟩
  · have hv := Lib.hid (tw_no hl)
    have hne : ((W.length : Int) == (S.length : Int)) = false := by rw [beq_eq_false_iff_ne]; omega
    go_enter Tryd.func38, Tryd.ntmps38
    go_wp2
    go_ret
    exact ⟨ret_bool hv.out.symm, (by repeat (first | exact Below.refl _ _ | assumption | refine Below.drew ?_ | refine below_drewN ?_ _ | refine Below.alloc' ?_ _ | (refine Below.setCell ?_ (by first | omega | (simp; done) | (simp; omega) | exact Below.size (by assumption) | exact Nat.le_trans (Below.size (by assumption)) (by simp)) _) | (refine Below.via' ?_ (by assumption)) | (refine Below.alloc ?_ (by first | omega | (simp; done) | (simp; omega) | exact Below.size (by assumption) | exact Nat.le_trans (Below.size (by assumption)) (by simp)) _) | (refine Below.via ?_ (by assumption) (by first | omega | (simp; done) | (simp; omega) | exact Below.size (by assumption) | exact Nat.le_trans (Below.size (by assumption)) (by simp)))))⟩
end Go.Proofs.YtgkaalonmkcclaaDoor

namespace Go.Proofs.YtgkaalonmkcclaaDoor
open Go.RowKit
set_option maxRecDepth 100000

/-- What slices.Index tells of a list and a number. -/
def ixP (L : List Int) (n k : Int) : Prop := -1 ≤ k ∧ k < 1048577 ∧ decide (0 ≤ k) = L.contains n
end Go.Proofs.YtgkaalonmkcclaaDoor

namespace Go.Proofs.YtgkaalonmkcclaaDoor
open Go.RowKit
set_option maxRecDepth 100000

set_option maxHeartbeats 2000000 in
theorem iGeo_any (x : Option Addr) (c : Nat) (P : List Int) (w : World) (h : IIn w x P) :
    Calls Tryd.prog 50 #[.agg #[.slice x P.length c]] w fun e w' => e = .returned (.bool (geB P)) ∧ Below w.heap.size w w' := by
  have hr := Lib.hid h.2.2
  have hm := h.1
  clear h
  by_cases h0 : P.length = 0
  · have hv := Lib.hid (ge_short (Or.inl h0))
    have h0' : ((P.length : Int) == 0) = true := by rw [beq_iff_eq]; omega
    replace h0 := Lib.hid h0
    go_enter Tryd.func50, Tryd.ntmps50
    go_wp2
    go_ret
    exact ⟨ret_bool hv.out.symm, (by repeat (first | exact Below.refl _ _ | assumption | refine Below.drew ?_ | refine below_drewN ?_ _ | refine Below.alloc' ?_ _ | (refine Below.setCell ?_ (by first | omega | (simp; done) | (simp; omega) | exact Below.size (by assumption) | exact Nat.le_trans (Below.size (by assumption)) (by simp)) _) | (refine Below.via' ?_ (by assumption)) | (refine Below.alloc ?_ (by first | omega | (simp; done) | (simp; omega) | exact Below.size (by assumption) | exact Nat.le_trans (Below.size (by assumption)) (by simp)) _) | (refine Below.via ?_ (by assumption) (by first | omega | (simp; done) | (simp; omega) | exact Below.size (by assumption) | exact Nat.le_trans (Below.size (by assumption)) (by simp)))))⟩
  have h0' : ((P.length : Int) == 0) = false := by rw [beq_eq_false_iff_ne]; omega
  by_cases h1 : (30 : Int) < P.length
  · have hv := Lib.hid (ge_short (P := P) (Or.inr (by omega)))
    go_enter Tryd.func50, Tryd.ntmps50
    go_wp2
    go_ret
    exact ⟨ret_bool hv.out.symm, (by repeat (first | exact Below.refl _ _ | assumption | refine Below.drew ?_ | refine below_drewN ?_ _ | refine Below.alloc' ?_ _ | (refine Below.setCell ?_ (by first | omega | (simp; done) | (simp; omega) | exact Below.size (by assumption) | exact Nat.le_trans (Below.size (by assumption)) (by simp)) _) | (refine Below.via' ?_ (by assumption)) | (refine Below.alloc ?_ (by first | omega | (simp; done) | (simp; omega) | exact Below.size (by assumption) | exact Nat.le_trans (Below.size (by assumption)) (by simp)) _) | (refine Below.via ?_ (by assumption) (by first | omega | (simp; done) | (simp; omega) | exact Below.size (by assumption) | exact Nat.le_trans (Below.size (by assumption)) (by simp)))))⟩
  obtain ⟨b, off, v, rfl, hbl, hP0, hc0⟩ := hr.out.int (i := 0) (by omega)
  have hpos : (0 : Int) < (P.length : Int) := by omega
  have hposN : 0 < P.length := by omega
  by_cases hv0 : v = -1
  · subst hv0
    rw [Nat.add_zero] at hc0
    replace hP0 := Lib.hid hP0
    go_enter Tryd.func50, Tryd.ntmps50
    go_wp2
    clear h0' hc0
    go_loop [3] (fun q => ∃ i : Nat, 1 ≤ i ∧ i ≤ P.length ∧ q = .int .i64 i ∧ Hid (∀ j, 1 ≤ j → j < i → ∃ v, P[j]? = some v ∧ 0 ≤ v ∧ v < j)) (fun q => P.length - (intOf q).toNat)
    case atStart => exact ⟨1, by omega, by omega, by go_num, fun j h1 h2 => absurd h2 (by omega)⟩
    case round =>
      obtain ⟨i, hi1, hi, rfl, hall⟩ := hrel
      by_cases hlt : i < P.length
      · obtain ⟨b2, off2, u, hx2, hbl2, hPi, hci⟩ := hr.out.int (i := i) hlt
        injection hx2 with hx2
        injection hx2 with e1 e2
        subst e1 e2
        have hlt' : (i : Int) < (P.length : Int) := by omega
        have hi0 : (0 : Int) ≤ (i : Int) := by omega
        by_cases hu0 : u < 0
        · have hv := Lib.hid (ge_bad hi1 hPi (by omega))
          replace hPi := Lib.hid hPi
          go_wp2
          go_ret
          exact ⟨ret_bool hv.out.symm, (by repeat (first | exact Below.refl _ _ | assumption | refine Below.drew ?_ | refine below_drewN ?_ _ | refine Below.alloc' ?_ _ | (refine Below.setCell ?_ (by first | omega | (simp; done) | (simp; omega) | exact Below.size (by assumption) | exact Nat.le_trans (Below.size (by assumption)) (by simp)) _) | (refine Below.via' ?_ (by assumption)) | (refine Below.alloc ?_ (by first | omega | (simp; done) | (simp; omega) | exact Below.size (by assumption) | exact Nat.le_trans (Below.size (by assumption)) (by simp)) _) | (refine Below.via ?_ (by assumption) (by first | omega | (simp; done) | (simp; omega) | exact Below.size (by assumption) | exact Nat.le_trans (Below.size (by assumption)) (by simp)))))⟩
        by_cases hu1 : (i : Int) ≤ u
        · have hv := Lib.hid (ge_bad hi1 hPi (by omega))
          replace hPi := Lib.hid hPi
          go_wp2
          go_ret
          exact ⟨ret_bool hv.out.symm, (by repeat (first | exact Below.refl _ _ | assumption | refine Below.drew ?_ | refine below_drewN ?_ _ | refine Below.alloc' ?_ _ | (refine Below.setCell ?_ (by first | omega | (simp; done) | (simp; omega) | exact Below.size (by assumption) | exact Nat.le_trans (Below.size (by assumption)) (by simp)) _) | (refine Below.via' ?_ (by assumption)) | (refine Below.alloc ?_ (by first | omega | (simp; done) | (simp; omega) | exact Below.size (by assumption) | exact Nat.le_trans (Below.size (by assumption)) (by simp)) _) | (refine Below.via ?_ (by assumption) (by first | omega | (simp; done) | (simp; omega) | exact Below.size (by assumption) | exact Nat.le_trans (Below.size (by assumption)) (by simp)))))⟩
        replace hPi := Lib.hid hPi
        go_wp2
        go_round
        case rel =>
          refine ⟨i + 1, by omega, by omega, by go_num, fun j h1 h2 => ?_⟩
          rcases Nat.lt_or_ge j i with h3 | h3
          · exact hall.out j h1 h3
          · obtain rfl : j = i := by omega
            exact ⟨u, hPi.out, by omega, by omega⟩
        case measure => simp [intOf]; omega
      · have hij : i = P.length := by omega
        subst hij
        have hv := Lib.hid (ge_ok (by omega) (by omega) hP0.out hall.out)
        clear hall
        go_wp2
        go_ret
        exact ⟨ret_bool hv.out.symm, (by repeat (first | exact Below.refl _ _ | assumption | refine Below.drew ?_ | refine below_drewN ?_ _ | refine Below.alloc' ?_ _ | (refine Below.setCell ?_ (by first | omega | (simp; done) | (simp; omega) | exact Below.size (by assumption) | exact Nat.le_trans (Below.size (by assumption)) (by simp)) _) | (refine Below.via' ?_ (by assumption)) | (refine Below.alloc ?_ (by first | omega | (simp; done) | (simp; omega) | exact Below.size (by assumption) | exact Nat.le_trans (Below.size (by assumption)) (by simp)) _) | (refine Below.via ?_ (by assumption) (by first | omega | (simp; done) | (simp; omega) | exact Below.size (by assumption) | exact Nat.le_trans (Below.size (by assumption)) (by simp)))))⟩
  · have hv := Lib.hid (ge_root (P := P) (by rw [hP0]; simpa using hv0))
    have h2 : (v == -1) = false := by rw [beq_eq_false_iff_ne]; exact hv0
    have h2' : (v != -1) = true := by show (!(v == -1)) = true; rw [h2]; rfl
    rw [Nat.add_zero] at hc0
    replace hP0 := Lib.hid hP0
    replace hv0 := Lib.hid hv0
    go_enter Tryd.func50, Tryd.ntmps50
    go_wp2
    go_ret
    exact ⟨ret_bool hv.out.symm, (by repeat (first | exact Below.refl _ _ | assumption | refine Below.drew ?_ | refine below_drewN ?_ _ | refine Below.alloc' ?_ _ | (refine Below.setCell ?_ (by first | omega | (simp; done) | (simp; omega) | exact Below.size (by assumption) | exact Nat.le_trans (Below.size (by assumption)) (by simp)) _) | (refine Below.via' ?_ (by assumption)) | (refine Below.alloc ?_ (by first | omega | (simp; done) | (simp; omega) | exact Below.size (by assumption) | exact Nat.le_trans (Below.size (by assumption)) (by simp)) _) | (refine Below.via ?_ (by assumption) (by first | omega | (simp; done) | (simp; omega) | exact Below.size (by assumption) | exact Nat.le_trans (Below.size (by assumption)) (by simp)))))⟩

set_option maxHeartbeats 2000000 in
theorem gGood_any (x : Option Addr) (c : Nat) (P : List Int) (w : World) (h : IIn w x P) :
    Calls Tryd.prog 34 #[.agg #[.slice x P.length c]] w fun e w' => e = .returned (.bool (geB P)) ∧ Below w.heap.size w w' := by
  have hr := Lib.hid h.2.2
  have hm := h.1
  clear h
  by_cases h1 : inB P.length 1 30 = false
  · have hv := Lib.hid (ge_short (P := P) (by rw [inB_no] at h1; omega))
    go_enter Tryd.func34, Tryd.ntmps34
    go_wp2_with (go_at_call 28; refine (l1In_any _ _ _ _).mono ?_; rintro e w1 ⟨rfl, rfl⟩)
    go_ret
    exact ⟨ret_bool hv.out.symm, (by repeat (first | exact Below.refl _ _ | assumption | refine Below.drew ?_ | refine below_drewN ?_ _ | refine Below.alloc' ?_ _ | (refine Below.setCell ?_ (by first | omega | (simp; done) | (simp; omega) | exact Below.size (by assumption) | exact Nat.le_trans (Below.size (by assumption)) (by simp)) _) | (refine Below.via' ?_ (by assumption)) | (refine Below.alloc ?_ (by first | omega | (simp; done) | (simp; omega) | exact Below.size (by assumption) | exact Nat.le_trans (Below.size (by assumption)) (by simp)) _) | (refine Below.via ?_ (by assumption) (by first | omega | (simp; done) | (simp; omega) | exact Below.size (by assumption) | exact Nat.le_trans (Below.size (by assumption)) (by simp)))))⟩
  have h1 : inB P.length 1 30 = true := by simpa using h1
  have hlen := (inB_iff _ _ _).1 h1
  obtain ⟨b, off, v, rfl, hbl, hP0, hc0⟩ := hr.out.int (i := 0) (by omega)
  have hpos : (0 : Int) < (P.length : Int) := by omega
  have hposN : 0 < P.length := by omega
  rw [Nat.add_zero] at hc0
  by_cases hv0 : v = -1
  · subst hv0
    replace hP0 := Lib.hid hP0
    go_enter Tryd.func34, Tryd.ntmps34
    go_wp2_with (go_at_call 28; refine (l1In_any _ _ _ _).mono ?_; rintro e w1 ⟨rfl, rfl⟩)
    clear h1 hc0
    go_loop [20] (fun q => ∃ i : Nat, i ≤ P.length ∧ q = .int .i64 i ∧ Hid (∀ j, 1 ≤ j → j < i → ∃ v, P[j]? = some v ∧ 0 ≤ v ∧ v < j)) (fun q => P.length - (intOf q).toNat)
    case atStart => exact ⟨0, by omega, by go_num, fun j h1 h2 => absurd h2 (by omega)⟩
    case round =>
      obtain ⟨i, hi, rfl, hall⟩ := hrel
      by_cases hlt : i < P.length
      · obtain ⟨b2, off2, u, hx2, hbl2, hPi, hci⟩ := hr.out.int (i := i) hlt
        injection hx2 with hx2
        injection hx2 with e1 e2
        subst e1 e2
        have hlt' : (i : Int) < (P.length : Int) := by omega
        have hi0 : (0 : Int) ≤ (i : Int) := by omega
        by_cases hi1 : (0 : Int) < (i : Int)
        · cases hin : inB u 0 ((i : Int) - 1)
          · have hv := Lib.hid (ge_bad (P := P) (by omega) hPi (by rw [inB_no] at hin; omega))
            replace hPi := Lib.hid hPi
            go_wp2_with (go_at_call 28; refine (l1In_any _ _ _ _).mono ?_; rintro e w1 ⟨rfl, rfl⟩)
            go_ret
            exact ⟨ret_bool hv.out.symm, (by repeat (first | exact Below.refl _ _ | assumption | refine Below.drew ?_ | refine below_drewN ?_ _ | refine Below.alloc' ?_ _ | (refine Below.setCell ?_ (by first | omega | (simp; done) | (simp; omega) | exact Below.size (by assumption) | exact Nat.le_trans (Below.size (by assumption)) (by simp)) _) | (refine Below.via' ?_ (by assumption)) | (refine Below.alloc ?_ (by first | omega | (simp; done) | (simp; omega) | exact Below.size (by assumption) | exact Nat.le_trans (Below.size (by assumption)) (by simp)) _) | (refine Below.via ?_ (by assumption) (by first | omega | (simp; done) | (simp; omega) | exact Below.size (by assumption) | exact Nat.le_trans (Below.size (by assumption)) (by simp)))))⟩
          · have hub := (inB_iff _ _ _).1 hin
            replace hPi := Lib.hid hPi
            go_wp2_with (go_at_call 28; refine (l1In_any _ _ _ _).mono ?_; rintro e w1 ⟨rfl, rfl⟩)
            go_round
            case rel =>
              refine ⟨i + 1, by omega, by go_num, fun j h1 h2 => ?_⟩
              rcases Nat.lt_or_ge j i with h3 | h3
              · exact hall.out j h1 h3
              · obtain rfl : j = i := by omega
                exact ⟨u, hPi.out, by omega, by omega⟩
            case measure => simp [intOf]; omega
        · replace hPi := Lib.hid hPi
          go_wp2
          go_round
          case rel =>
            refine ⟨i + 1, by omega, by go_num, fun j h1 h2 => ?_⟩
            omega
          case measure => simp [intOf]; omega
      · have hij : i = P.length := by omega
        subst hij
        have hv := Lib.hid (ge_ok (by omega) (by omega) hP0.out hall.out)
        clear hall
        go_wp2
        go_ret
        exact ⟨ret_bool hv.out.symm, (by repeat (first | exact Below.refl _ _ | assumption | refine Below.drew ?_ | refine below_drewN ?_ _ | refine Below.alloc' ?_ _ | (refine Below.setCell ?_ (by first | omega | (simp; done) | (simp; omega) | exact Below.size (by assumption) | exact Nat.le_trans (Below.size (by assumption)) (by simp)) _) | (refine Below.via' ?_ (by assumption)) | (refine Below.alloc ?_ (by first | omega | (simp; done) | (simp; omega) | exact Below.size (by assumption) | exact Nat.le_trans (Below.size (by assumption)) (by simp)) _) | (refine Below.via ?_ (by assumption) (by first | omega | (simp; done) | (simp; omega) | exact Below.size (by assumption) | exact Nat.le_trans (Below.size (by assumption)) (by simp)))))⟩
  · have hv := Lib.hid (ge_root (P := P) (by rw [hP0]; simpa using hv0))
    have h2 : (v == -1) = false := by rw [beq_eq_false_iff_ne]; exact hv0
    have h2' : (v != -1) = true := by show (!(v == -1)) = true; rw [h2]; rfl
    replace hP0 := Lib.hid hP0
    replace hv0 := Lib.hid hv0
    go_enter Tryd.func34, Tryd.ntmps34
    go_wp2_with (go_at_call 28; refine (l1In_any _ _ _ _).mono ?_; rintro e w1 ⟨rfl, rfl⟩)
    go_ret
    exact ⟨ret_bool hv.out.symm, (by repeat (first | exact Below.refl _ _ | assumption | refine Below.drew ?_ | refine below_drewN ?_ _ | refine Below.alloc' ?_ _ | (refine Below.setCell ?_ (by first | omega | (simp; done) | (simp; omega) | exact Below.size (by assumption) | exact Nat.le_trans (Below.size (by assumption)) (by simp)) _) | (refine Below.via' ?_ (by assumption)) | (refine Below.alloc ?_ (by first | omega | (simp; done) | (simp; omega) | exact Below.size (by assumption) | exact Nat.le_trans (Below.size (by assumption)) (by simp)) _) | (refine Below.via ?_ (by assumption) (by first | omega | (simp; done) | (simp; omega) | exact Below.size (by assumption) | exact Nat.le_trans (Below.size (by assumption)) (by simp)))))⟩
end Go.Proofs.YtgkaalonmkcclaaDoor

namespace Go.Proofs.YtgkaalonmkcclaaDoor
open Go.RowKit
set_option maxRecDepth 100000

theorem iC_setG (L : List Int) (k : Nat) (v : Int) : (iC L).set k (.int .i64 v) = iC (L.set k v) := by unfold iC; rw [List.map_set]
theorem drew_own {w : World} {base e size n : Nat} {v : Value} {xs : List Value} (h : w.ownsRow base e size v n xs) : w.drew.ownsRow base e size v n xs := own_below h (Below.drew (Below.refl _ _))
/-- A row of zeros. -/
def zL (n : Nat) : List Int := List.replicate n 0
theorem zL_len (n : Nat) : (zL n).length = n := by unfold zL; simp
theorem made_own (W : World) (base g n : Nat) (hg : W.heap.size = g) (hb : base ≤ g) (hn : n ≤ 1048576) : (W.alloc (.cells (madeCells #[.int .i64 0] n) 3)).ownsRow base 3 1 (.slice (some ⟨g, 0, none⟩) n n) n (iC (zL n)) := by
  subst hg
  refine ⟨by rw [iC_len, zL_len, Nat.mul_one], .inr ⟨W.heap.size, n, _, rfl, hb, heap_alloc_new W _, Nat.le_refl _, by unfold maxLen; omega, (by rw [size_madeCells]; simp), ?_⟩⟩
  rw [toList_madeCells_one, Nat.mul_one, List.take_of_length_le (by simp)]
  unfold iC zL
  rw [List.map_replicate]
/-- A tally. -/
def TlP (x : Option Addr) (c : Nat) (P V : List Int) (w : World) (e : Ending) (w' : World) : Prop :=
  ∃ g, e = .returned (.agg #[.slice x P.length c, .slice (some ⟨g, 0, none⟩) P.length P.length]) ∧ w'.ownsRow w.heap.size 3 1 (.slice (some ⟨g, 0, none⟩) P.length P.length) P.length (iC V) ∧ Below w.heap.size w w'
set_option maxHeartbeats 2000000 in
theorem newTally_any (x : Option Addr) (c : Nat) (P : List Int) (w : World) (hm : P.length ≤ 1048576) :
    Calls Tryd.prog 71 #[.agg #[.slice x P.length c]] w (TlP x c P (zL P.length) w) := by
  have hmk := fun (W : World) => run_make_row' (P := Tryd.prog) 22 3 (.int .i64 0) 8 Tryd.underlying22 Tryd.infoInt rfl .i64 .i64 P.length (by omega) (by omega) W
  go_enter Tryd.func71, Tryd.ntmps71
  go_wp2
  go_region
  all_goals
    go_wp2
    refine bodyPost_ret (v := .agg #[.slice x P.length c, .slice (some ⟨w.heap.size + 1 + 1, 0, none⟩) P.length P.length]) (by simp [results, Tryd.results71, go_sem]) rfl ⟨_, rfl, drew_own (made_own _ _ _ _ (by simp) (by omega) hm), (by repeat (first | exact Below.refl _ _ | assumption | refine Below.drew ?_ | refine below_drewN ?_ _ | refine Below.alloc' ?_ _ | (refine Below.setCell ?_ (by first | omega | (simp; done) | (simp; omega) | exact Below.size (by assumption) | exact Nat.le_trans (Below.size (by assumption)) (by simp)) _) | (refine Below.via' ?_ (by assumption)) | (refine Below.alloc ?_ (by first | omega | (simp; done) | (simp; omega) | exact Below.size (by assumption) | exact Nat.le_trans (Below.size (by assumption)) (by simp)) _) | (refine Below.via ?_ (by assumption) (by first | omega | (simp; done) | (simp; omega) | exact Below.size (by assumption) | exact Nat.le_trans (Below.size (by assumption)) (by simp)))))⟩

set_option maxHeartbeats 2000000 in
theorem stepP_any (x : Option Addr) (c g n base i p : Nat) (a : Int) (P V : List Int) (W : World) (hp : P[i]? = some (p : Int)) (hR : Rd W x (iC P)) (hi : i < n) (hpl : p < n) (hV : V[p]? = some a) (ha : 0 ≤ a ∧ a ≤ 1000000)
    (ho : W.ownsRow base 3 1 (.slice (some ⟨g, 0, none⟩) n n) n (iC V)) :
    Calls Tryd.prog 73 #[.agg #[.slice x P.length c, .slice (some ⟨g, 0, none⟩) n n], .int .i64 i] W fun e w' => e = .returned (.tuple #[]) ∧ w'.ownsRow base 3 1 (.slice (some ⟨g, 0, none⟩) n n) n (iC (V.set i (a + 1))) ∧ W.grownBy w' (some g) := by
  have hiP : i < P.length := (List.getElem?_eq_some_iff.1 hp).1
  obtain ⟨b, off, v, rfl, hbl, hPi, hc0⟩ := hR.int hiP
  obtain rfl : v = p := Option.some.inj (hPi.symm.trans hp)
  obtain ⟨u, hu, k0⟩ := own_cell ho (j := p) (by omega)
  obtain rfl : u = .int .i64 a := Option.some.inj (hu.symm.trans (iC_at hV))
  obtain ⟨u2, hu2, k02⟩ := own_cell ho (j := i) (by omega)
  have k2 := ho.frozenAt i
  have k4 := (own_lt ho).2
  have hi0 : (0 : Int) ≤ (i : Int) := by omega
  have hi1 : (i : Int) < (P.length : Int) := by omega
  have hi2 : (i : Int) < (n : Int) := by omega
  have hp0 : (0 : Int) ≤ (p : Int) := by omega
  have hp2 : (p : Int) < (n : Int) := by omega
  replace hu := Lib.hid hu
  replace hu2 := Lib.hid hu2
  replace hPi := Lib.hid hPi
  replace hp := Lib.hid hp
  replace hV := Lib.hid hV
  have hoh := Lib.hid ho
  clear ho hR
  go_enter Tryd.func73, Tryd.ntmps73
  have hst := hoh.out.stored i (.int .i64 (a + 1))
  rw [iC_setG] at hst
  have hs1 := Lib.hid hst.1
  have hs2 := Lib.hid hst.2
  clear hst
  go_wp2
  go_region
  all_goals
    go_wp2
    refine bodyPost_end (v := .tuple #[]) (by simp [results, Tryd.results73, go_sem]) rfl ?_
    exact ⟨rfl, own_below hs1.out (by repeat (first | exact Below.refl _ _ | assumption | refine Below.drew ?_ | refine below_drewN ?_ _ | refine Below.alloc' ?_ _ | (refine Below.setCell ?_ (by first | omega | (simp; done) | (simp; omega) | exact Below.size (by assumption) | exact Nat.le_trans (Below.size (by assumption)) (by simp)) _) | (refine Below.via' ?_ (by assumption)) | (refine Below.alloc ?_ (by first | omega | (simp; done) | (simp; omega) | exact Below.size (by assumption) | exact Nat.le_trans (Below.size (by assumption)) (by simp)) _) | (refine Below.via ?_ (by assumption) (by first | omega | (simp; done) | (simp; omega) | exact Below.size (by assumption) | exact Nat.le_trans (Below.size (by assumption)) (by simp))))), hs2.out.trans (grown_of_bel (by repeat (first | exact Below.refl _ _ | assumption | refine Below.drew ?_ | refine below_drewN ?_ _ | refine Below.alloc' ?_ _ | (refine Below.setCell ?_ (by first | omega | (simp; done) | (simp; omega) | exact Below.size (by assumption) | exact Nat.le_trans (Below.size (by assumption)) (by simp)) _) | (refine Below.via' ?_ (by assumption)) | (refine Below.alloc ?_ (by first | omega | (simp; done) | (simp; omega) | exact Below.size (by assumption) | exact Nat.le_trans (Below.size (by assumption)) (by simp)) _) | (refine Below.via ?_ (by assumption) (by first | omega | (simp; done) | (simp; omega) | exact Below.size (by assumption) | exact Nat.le_trans (Below.size (by assumption)) (by simp))))) _)⟩

/-- Block b is two slices. -/
def GBt (w : World) (b : Nat) (y : Option Addr) (n c : Nat) (z : Option Addr) (m d : Nat) : Prop := w.cell? ⟨b, 0, none⟩ = some (.slice y n c) ∧ w.cell? ⟨b, 1, none⟩ = some (.slice z m d) ∧ b < w.heap.size
theorem GBt.new (w : World) (y : Option Addr) (n c : Nat) (z : Option Addr) (m d : Nat) (t : TypeId) : GBt (w.alloc (.cells #[.slice y n c, .slice z m d] t)) w.heap.size y n c z m d := by
  have h := Wb.new w t #[.slice y n c, .slice z m d]
  exact ⟨(h.read 0).trans rfl, (h.read 1).trans rfl, h.inside⟩
theorem GBt.below {w w' : World} {b : Nat} {y z : Option Addr} {n c m d : Nat} (h : GBt w b y n c z m d) (hb : Below w.heap.size w w') : GBt w' b y n c z m d :=
  ⟨(hb.cell h.2.2).trans h.1, (hb.cell h.2.2).trans h.2.1, Nat.lt_of_lt_of_le h.2.2 hb.size⟩
theorem GBt.grown {w w' : World} {b : Nat} {y z : Option Addr} {n c m d : Nat} {r : Option Nat} (h : GBt w b y n c z m d) (hg : w.grownBy w' r) (hne : some b ≠ r) : GBt w' b y n c z m d := by
  have e := hg.block b h.2.2 hne
  exact ⟨(World.cell?_of_block (a := ⟨b, 0, none⟩) e).trans h.1, (World.cell?_of_block (a := ⟨b, 1, none⟩) e).trans h.2.1, Nat.lt_of_lt_of_le h.2.2 hg.size⟩
/-- What a visit of one area does to a tally. -/
def StepP (fn : FuncId) (x : Option Addr) (c g base : Nat) (P : List Int) (F : Nat → List Int) (i j : Nat) : Prop :=
  ∀ W : World, Rd W x (iC P) → W.ownsRow base 3 1 (.slice (some ⟨g, 0, none⟩) P.length P.length) P.length (iC (F i)) →
    Calls Tryd.prog fn #[.agg #[.slice x P.length c, .slice (some ⟨g, 0, none⟩) P.length P.length], .int .i64 i] W fun e w' => e = .returned (.tuple #[]) ∧ w'.ownsRow base 3 1 (.slice (some ⟨g, 0, none⟩) P.length P.length) P.length (iC (F j)) ∧ W.grownBy w' (some g)
theorem tb_set {W w' : World} {b g : Nat} {y z : Option Addr} {n c m d : Nat} (h : GBt W b y n c z m d) (hg : W.grownBy w' (some g)) (hne : b ≠ g) : GBt w' b y n c z m d := h.grown hg (fun e => by injection e with e; exact hne e)
set_option maxHeartbeats 2000000 in
theorem visitDown_dp (x : Option Addr) (c g base : Nat) (P : List Int) (F : Nat → List Int) (w : World) (hm : P.length ≤ 1048576) (h1 : 1 ≤ P.length) (hx : Rd w x (iC P)) (hxb : ∀ b off, x = some ⟨b, off, none⟩ → b < base) (hst : ∀ i, 1 ≤ i → i < P.length → StepP 73 x c g base P F i (i + 1))
    (ho : w.ownsRow base 3 1 (.slice (some ⟨g, 0, none⟩) P.length P.length) P.length (iC (F 1))) :
    Calls Tryd.prog 72 #[.agg #[.slice x P.length c, .slice (some ⟨g, 0, none⟩) P.length P.length], .func (.func 73) #[] #[]] w fun e w' => e = .returned (.tuple #[]) ∧ w'.ownsRow base 3 1 (.slice (some ⟨g, 0, none⟩) P.length P.length) P.length (iC (F P.length)) ∧ w.grownBy w' (some g) := by
  have hgl := own_lt ho
  have hoh := Lib.hid (ho.alloc (.cells #[.slice x P.length c, .slice (some ⟨g, 0, none⟩) P.length P.length] 105))
  have hxh := Lib.hid (hx.alloc (.cells #[.slice x P.length c, .slice (some ⟨g, 0, none⟩) P.length P.length] 105))
  have hst := Lib.hid hst
  have hxb := Lib.hid hxb
  clear ho hx
  go_enter Tryd.func72, Tryd.ntmps72
  go_wp2
  go_loopw [4] (fun q wr => ∃ i : Nat, 1 ≤ i ∧ i ≤ P.length ∧ q = .int .i64 i ∧ wr.ownsRow base 3 1 (.slice (some ⟨g, 0, none⟩) P.length P.length) P.length (iC (F i)) ∧ GBt wr w.heap.size x P.length c (some ⟨g, 0, none⟩) P.length P.length ∧ Rd wr x (iC P) ∧ w.grownBy wr (some g)) (fun q _ => P.length - (intOf q).toNat)
  case atStart => exact ⟨1, by omega, by omega, by go_num, hoh.out, GBt.new _ _ _ _ _ _ _ _, hxh.out, World.grownBy_alloc w _ _⟩
  case round =>
    clear hoh hxh
    obtain ⟨i, hi1, hi, rfl, hown, htb, hx, hb⟩ := hrel
    obtain ⟨ka, kb, kc⟩ := htb
    have hownh := Lib.hid hown
    have hxh := Lib.hid hx
    have htb := Lib.hid (show GBt wr w.heap.size x P.length c (some ⟨g, 0, none⟩) P.length P.length from ⟨ka, kb, kc⟩)
    clear hown hx
    by_cases hlt : i < P.length
    · have hlt' : (i : Int) < (P.length : Int) := by omega
      go_wp2_with fail
      go_at_call 73
      refine (hst.out i hi1 hlt _ hxh.out hownh.out).mono ?_
      rintro e w2 ⟨rfl, ho2, hg2⟩
      have ho2 := Lib.hid ho2
      have hg2 := Lib.hid hg2
      clear ka kb kc
      go_wp2
      go_roundw
      case rel => exact ⟨i + 1, by omega, by omega, by go_num, ho2.out, tb_set htb.out hg2.out (by omega), hxh.out.keep hg2.out (fun b off e q => by injection q with q; have := hxb.out b off e; omega), hb.trans hg2.out⟩
      case measure => simp [intOf]; omega
    · have hij : i = P.length := by omega
      subst hij
      go_wp2
      refine bodyPost_end (v := .tuple #[]) (by simp [results, Tryd.results72, go_sem]) rfl ?_
      exact ⟨rfl, hownh.out, hb⟩
end Go.Proofs.YtgkaalonmkcclaaDoor
