import Derived.Test.YtgkaalonmkcclaaDoorRecL
import Derived.Test.YtgkaalonmkcclaaDoorPRbC
import Derived.Test.YtgkaalonmkcclaaDoorSchO
import Derived.Deep.Strs
import Derived.Test.YtgkaalonmkcclaaDoorGeoL
import Derived.Test.YtgkaalonmkcclaaDoorRecM
import Derived.Test.YtgkaalonmkcclaaDoorEdG
import Derived.Test.YtgkaalonmkcclaaDoorEdV
namespace Go.Proofs.YtgkaalonmkcclaaDoor
open Go.RowKit
set_option maxRecDepth 100000

/-- Block g holds a record. -/
def RB (w : World) (g : Nat) (a h : Int) (x : Option Addr) (n c : Nat) : Prop :=
  w.cell? ⟨g, 0, none⟩ = some (.int .i64 a) ∧ w.cell? ⟨g, 1, none⟩ = some (.int .i64 h) ∧ w.cell? ⟨g, 2, none⟩ = some (.slice x n c) ∧ g < w.heap.size
theorem RB.new (w : World) (a h : Int) (x : Option Addr) (n c : Nat) (t : TypeId) : RB (w.alloc (.cells #[.int .i64 a, .int .i64 h, .slice x n c] t)) w.heap.size a h x n c := by
  have k := Wb.new w t #[.int .i64 a, .int .i64 h, .slice x n c]
  exact ⟨(k.read 0).trans rfl, (k.read 1).trans rfl, (k.read 2).trans rfl, k.inside⟩
theorem RB.below {w w' : World} {g : Nat} {a h : Int} {x : Option Addr} {n c : Nat} (k : RB w g a h x n c) (hb : Below w.heap.size w w') : RB w' g a h x n c :=
  ⟨(hb.cell k.2.2.2).trans k.1, (hb.cell k.2.2.2).trans k.2.1, (hb.cell k.2.2.2).trans k.2.2.1, Nat.lt_of_lt_of_le k.2.2.2 hb.size⟩
theorem RB.off {w w' : World} {lo hi g : Nat} {a h : Int} {x : Option Addr} {n c : Nat} (k : RB w g a h x n c) (hg : Off lo hi w w') (hne : g < lo ∨ hi ≤ g) : RB w' g a h x n c := by
  have e := hg.block g k.2.2.2 hne
  exact ⟨(World.cell?_of_block (a := ⟨g, 0, none⟩) e).trans k.1, (World.cell?_of_block (a := ⟨g, 1, none⟩) e).trans k.2.1, (World.cell?_of_block (a := ⟨g, 2, none⟩) e).trans k.2.2.1, Nat.lt_of_lt_of_le k.2.2.2 hg.size⟩

theorem rok_no {S : List (ByteArray × Int)} {a h : Int} {L : List Int} (k : ¬ (0 ≤ a ∧ a ≤ 29) ∨ ¬ (0 ≤ h ∧ h ≤ 999)) : rokB S (a, h, L) = false := by
  unfold rokB
  rcases k with k | k
  · rw [(inB_no a 0 29).2 k]; rfl
  · rw [(inB_no h 0 999).2 k, Bool.and_false]; rfl
theorem rok_yes {S : List (ByteArray × Int)} {a h : Int} {L : List Int} (k : 0 ≤ a ∧ a ≤ 29) (k2 : 0 ≤ h ∧ h ≤ 999) : rokB S (a, h, L) = fitB S L := by
  unfold rokB
  rw [(inB_iff a 0 29).2 k, (inB_iff h 0 999).2 k2]; rfl

theorem ret_bb {a b p q : Bool} (h : a = b) (k : p = q) : Ending.returned (.tuple #[.bool a, .bool p]) = .returned (.tuple #[.bool b, .bool q]) := by rw [h, k]
end Go.Proofs.YtgkaalonmkcclaaDoor

namespace Go.Proofs.YtgkaalonmkcclaaDoor
open Go.ChangeShapes Go.WideShapes Go.ChangeAt Go.RowKit
open Go.Joins
set_option maxRecDepth 100000

instance : Inhabited PR := ⟨⟨0, 0, none, 0, []⟩⟩
/-- The record that the law has copied can be read as one. -/
theorem IIn.of_owR {w : World} {lo hi : Nat} {ti : TypeId} {x : Option Addr} {c : Nat} {L : List Int} (h : OwR w lo hi ti 1 (.slice x L.length c) L.length (iC L)) (hl : L.length ≤ 1048576) (hn : ∀ n ∈ L, IsI64 n) : IIn w x L := ⟨hl, hn, h.rd⟩
/-- The records that the law has copied can be read as data: their numbers are those that came in. -/
theorem DIn.of_owD {w W : World} {lo hi : Nat} {tr ti : TypeId} {x y : Option Addr} {c : Nat} {T Q : List PR} (h : OwD w lo hi tr ti (.slice x T.length c) T) (hT : pM T = pM Q) (hQ : DIn0 W y Q) (hl : Q.length ≤ 1048576) (ht : tot Q ≤ 1048576) : DIn w x T := by
  refine ⟨by rw [pM_length hT]; exact hl, fun t hm => ?_, h.1.rd⟩
  obtain ⟨i, hi, e⟩ := List.getElem_of_mem hm
  have hTi : T[i]? = some t := by rw [List.getElem?_eq_getElem hi, e]
  have hQl : i < Q.length := by rw [← pM_length hT]; exact hi
  have hQi : Q[i]? = some Q[i] := List.getElem?_eq_getElem hQl
  obtain ⟨e1, e2, e3⟩ := pM_get hT hQi hTi
  obtain ⟨_, g1, g2, g3, _⟩ := hQ.2.1 Q[i] (List.getElem_mem hQl)
  have := tot_mem (List.getElem_mem hQl)
  refine ⟨by rw [e1]; exact g1, by rw [e2]; exact g2, by rw [e3]; omega, by rw [e3]; exact g3, (h.2.1.1 t hm).rd⟩
theorem DIn.inn {w : World} {x : Option Addr} {Q : List PR} (h : DIn w x Q) : ∀ q ∈ Q, Rd w q.x (iC q.L) := fun q hq => (h.2.1 q hq).2.2.2.2
theorem DIn.len {w : World} {x : Option Addr} {Q : List PR} (h : DIn w x Q) : Q.length ≤ 9223372036854775807 ∧ ∀ q ∈ Q, q.L.length ≤ 9223372036854775807 := ⟨by have := h.1; omega, fun q hq => by have := (h.2.1 q hq).2.2.1; omega⟩
end Go.Proofs.YtgkaalonmkcclaaDoor

namespace Go.Proofs.YtgkaalonmkcclaaDoor
open Go.ChangeShapes Go.WideShapes Go.ChangeAt Go.RowKit
open Go.Joins Go.Deep
set_option maxRecDepth 100000

/-- Block g holds a table. -/
def TQ (w : World) (g : Nat) (l : Int) (x : Option Addr) (n c : Nat) (z : Option Addr) (k d : Nat) (m : Int) : Prop :=
  w.cell? ⟨g, 0, none⟩ = some (.int .i64 l) ∧ w.cell? ⟨g, 1, none⟩ = some (.slice x n c) ∧ w.cell? ⟨g, 2, none⟩ = some (.slice z k d) ∧ w.cell? ⟨g, 3, none⟩ = some (.int .i64 m) ∧ g < w.heap.size
section
variable {w w' : World} {g : Nat} {l : Int} {x : Option Addr} {n c : Nat} {z : Option Addr} {k d : Nat} {m : Int}
theorem TQ.new (w : World) (l : Int) (x : Option Addr) (n c : Nat) (z : Option Addr) (k d : Nat) (m : Int) (t : TypeId) : TQ (w.alloc (.cells #[.int .i64 l, .slice x n c, .slice z k d, .int .i64 m] t)) w.heap.size l x n c z k d m := by
  have h := Wb.new w t #[.int .i64 l, .slice x n c, .slice z k d, .int .i64 m]
  exact ⟨(h.read 0).trans rfl, (h.read 1).trans rfl, (h.read 2).trans rfl, (h.read 3).trans rfl, h.inside⟩
theorem TQ.of_block (h : TQ w g l x n c z k d m) (e : w'.heap[g]? = w.heap[g]?) (hs : w.heap.size ≤ w'.heap.size) : TQ w' g l x n c z k d m :=
  ⟨(World.cell?_of_block (a := ⟨g, 0, none⟩) e).trans h.1, (World.cell?_of_block (a := ⟨g, 1, none⟩) e).trans h.2.1, (World.cell?_of_block (a := ⟨g, 2, none⟩) e).trans h.2.2.1, (World.cell?_of_block (a := ⟨g, 3, none⟩) e).trans h.2.2.2.1, Nat.lt_of_lt_of_le h.2.2.2.2 hs⟩
theorem TQ.below (h : TQ w g l x n c z k d m) (hb : Below w.heap.size w w') : TQ w' g l x n c z k d m := h.of_block (hb.block g h.2.2.2.2) hb.size
theorem TQ.grown {r : Option Nat} (h : TQ w g l x n c z k d m) (hg : w.grownBy w' r) (hne : some g ≠ r) : TQ w' g l x n c z k d m := h.of_block (hg.block g h.2.2.2.2 hne) hg.size
theorem TQ.off {lo hi : Nat} (h : TQ w g l x n c z k d m) (hg : Off lo hi w w') (hne : g < lo ∨ hi ≤ g) : TQ w' g l x n c z k d m := h.of_block (hg.block g h.2.2.2.2 hne) hg.size
end
theorem QB.off {w w' : World} {lo hi g : Nat} {y : Option Addr} {n c : Nat} (h : QB w g y n c) (hg : Off lo hi w w') (hne : g < lo ∨ hi ≤ g) : QB w' g y n c := by
  have e := hg.block g h.2.2 hne
  exact ⟨(World.cell?_of_block (a := ⟨g, 0, none⟩) e).trans h.1, (World.frozen?_of_block (a := ⟨g, 0, none⟩) e).trans h.2.1, Nat.lt_of_lt_of_le h.2.2 hg.size⟩
/-- A table's two lists that come in. -/
def TIn (w : World) (x z : Option Addr) (F W : List Int) : Prop := IIn w x F ∧ IIn w z W
theorem TIn.below {w w' : World} {x z : Option Addr} {F W : List Int} (h : TIn w x z F W) (hb : Below w.heap.size w w') : TIn w' x z F W := ⟨h.1.below hb, h.2.below hb⟩
/-- A table's two lists that are owned: apart from each other. -/
def OwT (w : World) (lo hi : Nat) (u v : Value) (F W : List Int) : Prop := ∃ mid, lo ≤ mid ∧ mid ≤ hi ∧ OwR w lo mid 3 1 u F.length (iC F) ∧ OwR w mid hi 3 1 v W.length (iC W)
section
variable {w w' : World} {lo hi : Nat} {u v : Value} {F W : List Int}
theorem OwT.below (h : OwT w lo hi u v F W) (hb : Below w.heap.size w w') : OwT w' lo hi u v F W := by
  obtain ⟨mid, h1, h2, a, b⟩ := h
  exact ⟨mid, h1, h2, a.below hb, b.below hb⟩
theorem OwT.off {lo2 hi2 : Nat} (h : OwT w lo hi u v F W) (hg : Off lo2 hi2 w w') (hne : hi ≤ lo2 ∨ hi2 ≤ lo) : OwT w' lo hi u v F W := by
  obtain ⟨mid, h1, h2, a, b⟩ := h
  exact ⟨mid, h1, h2, a.off hg (by omega), b.off hg (by omega)⟩
theorem OwT.keep {r : Option Nat} (h : OwT w lo hi u v F W) (hg : w.grownBy w' r) (hr : ∀ k, r = some k → k < lo ∨ hi ≤ k) : OwT w' lo hi u v F W := by
  obtain ⟨mid, h1, h2, a, b⟩ := h
  exact ⟨mid, h1, h2, a.keep hg (fun k hk => by have := hr k hk; omega), b.keep hg (fun k hk => by have := hr k hk; omega)⟩
end
theorem TIn.of_owT {w : World} {lo hi : Nat} {x z : Option Addr} {c d : Nat} {F W : List Int} (h : OwT w lo hi (.slice x F.length c) (.slice z W.length d) F W) (hF : F.length ≤ 1048576) (hW : W.length ≤ 1048576) (hnF : ∀ n ∈ F, IsI64 n) (hnW : ∀ n ∈ W, IsI64 n) : TIn w x z F W := by
  obtain ⟨mid, h1, h2, a, b⟩ := h
  exact ⟨⟨hF, hnF, a.rd⟩, ⟨hW, hnW, b.rd⟩⟩

/-- A size, in words that go on. -/
def SzQ (left : Int) (len : Nat) (w : World) (e : Ending) (w' : World) : Prop := ∃ r : Int, e = .returned (.int .i64 r) ∧ r ≤ left ∧ -1 ≤ r ∧ (0 ≤ r → r + len = left) ∧ Below w.heap.size w w'
theorem szGeo_x (y : Option Addr) (len cap : Nat) (left : Int) (w : World) (hl : 0 ≤ left) (h : left ≤ 1048576) (hm : len ≤ 9223372036854775807) :
    Calls Tryd.prog 5 #[.agg #[.slice y len cap], .int .i64 left] w (SzQ left len w) :=
  (szGeo_any y len cap left w hl h hm).mono fun e w' ⟨he, hb⟩ => ⟨szZ left len, he, by unfold szZ; split <;> omega, by unfold szZ; split <;> omega, by unfold szZ; split <;> omega, hb⟩
theorem szTable_x (l : Int) (x : Option Addr) (n c : Nat) (z : Option Addr) (k d : Nat) (m : Int) (left : Int) (w : World) (hl : 0 ≤ left) (h : left ≤ 1048576) (hn : n ≤ 9223372036854775807) (hk : k ≤ 9223372036854775807) :
    Calls Tryd.prog 7 #[.agg #[.int .i64 l, .slice x n c, .slice z k d, .int .i64 m], .int .i64 left] w (SzQ left (n + k) w) := by
  have hb := szZ_bd left n hl
  have e1 : szZ left n = -1 ∧ left < n ∨ szZ left n = left - n ∧ 0 ≤ left - n := by unfold szZ; split <;> omega
  by_cases hn1 : szZ left n < 0
  · go_enter Tryd.func7, Tryd.ntmps7
    go_wp2_with (go_at_call 18; refine (szIntS_any _ _ _ _ _ hl h hn).mono ?_; rintro e w1 ⟨rfl, rfl⟩)
    go_ret
    exact ⟨-1, rfl, by omega, by omega, by omega, (by repeat (first | exact Below.refl _ _ | assumption | refine Below.drew ?_ | refine below_drewN ?_ _ | refine Below.alloc' ?_ _ | (refine Below.setCell ?_ (by first | omega | (simp; done) | (simp; omega) | exact Below.size (by assumption) | exact Nat.le_trans (Below.size (by assumption)) (by simp)) _) | (refine Below.via' ?_ (by assumption)) | (refine Below.alloc ?_ (by first | omega | (simp; done) | (simp; omega) | exact Below.size (by assumption) | exact Nat.le_trans (Below.size (by assumption)) (by simp)) _) | (refine Below.via ?_ (by assumption) (by first | omega | (simp; done) | (simp; omega) | exact Below.size (by assumption) | exact Nat.le_trans (Below.size (by assumption)) (by simp)))))⟩
  have hl2 : 0 ≤ szZ left n := by omega
  have h2 : szZ left n ≤ 1048576 := by omega
  have e2 : szZ (szZ left n) k = -1 ∧ szZ left n < k ∨ szZ (szZ left n) k = szZ left n - k ∧ 0 ≤ szZ left n - k := by unfold szZ at hl2 ⊢; split <;> omega
  by_cases hn2 : szZ (szZ left n) k < 0
  · go_enter Tryd.func7, Tryd.ntmps7
    go_wp2_with fail
    refine (szIntS_any _ _ _ _ _ hl h hn).mono ?_
    rintro e w1 ⟨rfl, rfl⟩
    go_wp2_with fail
    refine (szIntS_any _ _ _ _ _ hl2 h2 hk).mono ?_
    rintro e w2 ⟨rfl, rfl⟩
    go_wp2
    go_ret
    exact ⟨-1, rfl, by omega, by omega, by omega, (by repeat (first | exact Below.refl _ _ | assumption | refine Below.drew ?_ | refine below_drewN ?_ _ | refine Below.alloc' ?_ _ | (refine Below.setCell ?_ (by first | omega | (simp; done) | (simp; omega) | exact Below.size (by assumption) | exact Nat.le_trans (Below.size (by assumption)) (by simp)) _) | (refine Below.via' ?_ (by assumption)) | (refine Below.alloc ?_ (by first | omega | (simp; done) | (simp; omega) | exact Below.size (by assumption) | exact Nat.le_trans (Below.size (by assumption)) (by simp)) _) | (refine Below.via ?_ (by assumption) (by first | omega | (simp; done) | (simp; omega) | exact Below.size (by assumption) | exact Nat.le_trans (Below.size (by assumption)) (by simp)))))⟩
  · go_enter Tryd.func7, Tryd.ntmps7
    go_wp2_with fail
    refine (szIntS_any _ _ _ _ _ hl h hn).mono ?_
    rintro e w1 ⟨rfl, rfl⟩
    go_wp2_with fail
    refine (szIntS_any _ _ _ _ _ hl2 h2 hk).mono ?_
    rintro e w2 ⟨rfl, rfl⟩
    go_wp2
    go_ret
    exact ⟨_, rfl, by omega, by omega, fun _ => by omega, (by repeat (first | exact Below.refl _ _ | assumption | refine Below.drew ?_ | refine below_drewN ?_ _ | refine Below.alloc' ?_ _ | (refine Below.setCell ?_ (by first | omega | (simp; done) | (simp; omega) | exact Below.size (by assumption) | exact Nat.le_trans (Below.size (by assumption)) (by simp)) _) | (refine Below.via' ?_ (by assumption)) | (refine Below.alloc ?_ (by first | omega | (simp; done) | (simp; omega) | exact Below.size (by assumption) | exact Nat.le_trans (Below.size (by assumption)) (by simp)) _) | (refine Below.via ?_ (by assumption) (by first | omega | (simp; done) | (simp; omega) | exact Below.size (by assumption) | exact Nat.le_trans (Below.size (by assumption)) (by simp)))))⟩

/-- A table that the law has copied. -/
def TbPost (l : Int) (F W : List Int) (m : Int) (w : World) (e : Ending) (w' : World) : Prop :=
  ∃ g f, e = .returned (.agg #[.int .i64 l, .slice (some ⟨g, 0, none⟩) F.length F.length, .slice (some ⟨f, 0, none⟩) W.length W.length, .int .i64 m]) ∧ OwT w' w.heap.size w'.heap.size (.slice (some ⟨g, 0, none⟩) F.length F.length) (.slice (some ⟨f, 0, none⟩) W.length W.length) F W ∧ Below w.heap.size w w'
set_option maxHeartbeats 2000000 in
theorem toTable_any (l : Int) (x z : Option Addr) (c d : Nat) (F W : List Int) (m : Int) (w : World) (hmF : F.length ≤ 1048576) (hmW : W.length ≤ 1048576) (hF : Rd w x (iC F)) (hW : Rd w z (iC W)) :
    Calls Tryd.prog 11 #[.agg #[.int .i64 l, .slice x F.length c, .slice z W.length d, .int .i64 m]] w (TbPost l F W m w) := by
  have hFh := Lib.hid hF
  have hWh := Lib.hid hW
  clear hF hW
  have hq := Lib.hid (TQ.new w l x F.length c z W.length d m 27)
  go_enter Tryd.func11, Tryd.ntmps11
  go_wp2_with fail
  refine (toIntS_any _ _ _ _ hmF (hFh.out.below (by exact (by repeat (first | exact Below.refl _ _ | assumption | refine Below.drew ?_ | refine below_drewN ?_ _ | refine Below.alloc' ?_ _ | (refine Below.setCell ?_ (by first | omega | (simp; done) | (simp; omega) | exact Below.size (by assumption) | exact Nat.le_trans (Below.size (by assumption)) (by simp)) _) | (refine Below.via' ?_ (by assumption)) | (refine Below.alloc ?_ (by first | omega | (simp; done) | (simp; omega) | exact Below.size (by assumption) | exact Nat.le_trans (Below.size (by assumption)) (by simp)) _) | (refine Below.via ?_ (by assumption) (by first | omega | (simp; done) | (simp; omega) | exact Below.size (by assumption) | exact Nat.le_trans (Below.size (by assumption)) (by simp)))))))).mono ?_
  rintro e w1 ⟨rfl, ho1, hb1⟩
  obtain ⟨hcl1, hfr1⟩ := bcell hb1
  have hz1 := hb1.size; (try simp at hz1); (try (have hly1 := Nat.lt_of_succ_le hz1)); (try (have hlx1 := Nat.lt_of_succ_lt hly1)); (try (have hlw1 := Nat.lt_of_succ_lt hlx1)); (try (have hle1 := Nat.le_of_lt hly1))
  have hoh := Lib.hid ho1
  clear ho1
  have B1 : Below w.heap.size w w1 := (by repeat (first | exact Below.refl _ _ | assumption | refine Below.drew ?_ | refine below_drewN ?_ _ | refine Below.alloc' ?_ _ | (refine Below.setCell ?_ (by first | omega | (simp; done) | (simp; omega) | exact Below.size (by assumption) | exact Nat.le_trans (Below.size (by assumption)) (by simp)) _) | (refine Below.via' ?_ (by assumption)) | (refine Below.alloc ?_ (by first | omega | (simp; done) | (simp; omega) | exact Below.size (by assumption) | exact Nat.le_trans (Below.size (by assumption)) (by simp)) _) | (refine Below.via ?_ (by assumption) (by first | omega | (simp; done) | (simp; omega) | exact Below.size (by assumption) | exact Nat.le_trans (Below.size (by assumption)) (by simp)))))
  have hb1 := Lib.hid hb1
  go_wp2_with fail
  refine (toIntS_any _ _ _ _ hmW (hWh.out.below (by exact (by repeat (first | exact Below.refl _ _ | assumption | refine Below.drew ?_ | refine below_drewN ?_ _ | refine Below.alloc' ?_ _ | (refine Below.setCell ?_ (by first | omega | (simp; done) | (simp; omega) | exact Below.size (by assumption) | exact Nat.le_trans (Below.size (by assumption)) (by simp)) _) | (refine Below.via' ?_ (by assumption)) | (refine Below.alloc ?_ (by first | omega | (simp; done) | (simp; omega) | exact Below.size (by assumption) | exact Nat.le_trans (Below.size (by assumption)) (by simp)) _) | (refine Below.via ?_ (by assumption) (by first | omega | (simp; done) | (simp; omega) | exact Below.size (by assumption) | exact Nat.le_trans (Below.size (by assumption)) (by simp)))))))).mono ?_
  rintro e w2 ⟨rfl, ho2, hb2⟩
  simp only [World.size_setCell] at ho2
  obtain ⟨hcl2, hfr2⟩ := bcell hb2
  have hz2 := hb2.size
  simp at hz2
  have hl2 : w.heap.size + 1 + 1 < w2.heap.size := by omega
  have hl3 : w.heap.size + 1 < w2.heap.size := by omega
  have hl4 : w.heap.size < w2.heap.size := by omega
  have hlt2 : w1.heap.size < w2.heap.size := (own_lt ho2).2
  have ho2h := Lib.hid ho2
  clear ho2
  have B2 : Below w.heap.size w w2 := (by repeat (first | exact Below.refl _ _ | assumption | refine Below.drew ?_ | refine below_drewN ?_ _ | refine Below.alloc' ?_ _ | (refine Below.setCell ?_ (by first | omega | (simp; done) | (simp; omega) | exact Below.size (by assumption) | exact Nat.le_trans (Below.size (by assumption)) (by simp)) _) | (refine Below.via' ?_ (by assumption)) | (refine Below.alloc ?_ (by first | omega | (simp; done) | (simp; omega) | exact Below.size (by assumption) | exact Nat.le_trans (Below.size (by assumption)) (by simp)) _) | (refine Below.via ?_ (by assumption) (by first | omega | (simp; done) | (simp; omega) | exact Below.size (by assumption) | exact Nat.le_trans (Below.size (by assumption)) (by simp)))))
  have ho3 : w1.ownsRow (w.heap.size + 1 + 1 + 1) 3 1 (.slice (some ⟨w.heap.size + 1 + 1 + 1, 0, none⟩) F.length F.length) F.length (iC F) := by simpa using hoh.out
  have ho4 : w2.ownsRow (w.heap.size + 1 + 1 + 1) 3 1 (.slice (some ⟨w.heap.size + 1 + 1 + 1, 0, none⟩) F.length F.length) F.length (iC F) := own_below (ownsRow_setCell_below ho3 (by simp) _) hb2
  have ho4 := Lib.hid ho4
  have hz1' : w.heap.size + 1 + 1 + 1 < w1.heap.size := (own_lt ho3).2
  clear ho3 hoh
  go_wp2
  refine bodyPost_ret (v := .agg #[.int .i64 l, .slice (some ⟨w.heap.size + 1 + 1 + 1, 0, none⟩) F.length F.length, .slice (some ⟨w1.heap.size, 0, none⟩) W.length W.length, .int .i64 m]) (by simp [results, Tryd.results11, go_sem, *]) rfl ⟨_, _, rfl, ⟨w1.heap.size, by omega, by simp; omega, ⟨?_, ?_⟩, ⟨?_, ?_⟩⟩, ?_⟩
  · refine own_more (base := w.heap.size + 1 + 1 + 1) ?_ (by omega)
    repeat (refine ownsRow_setCell_below ?_ (by simp; try omega) _)
    exact ho4.out
  · intro k hk
    obtain rfl : w.heap.size + 1 + 1 + 1 = k := by injection hk
    omega
  · repeat (refine ownsRow_setCell_below ?_ (by simp; try omega) _)
    exact ho2h.out
  · intro k hk
    obtain rfl : w1.heap.size = k := by injection hk
    simp only [World.size_setCell]
    exact ⟨Nat.le_refl _, hlt2⟩
  · repeat (refine Below.setCell ?_ (by simp; try omega) _)
    exact B2

theorem eqTable_any (x z x2 z2 : Option Addr) {c d c2 d2 : Nat} (l m : Int) (F W : List Int) (w : World) (hmF : F.length ≤ 9223372036854775807) (hmW : W.length ≤ 9223372036854775807) (hX : TIn w x z F W) (hY : TIn w x2 z2 F W) :
    Calls Tryd.prog 15 #[.agg #[.int .i64 l, .slice x F.length c, .slice z W.length d, .int .i64 m], .agg #[.int .i64 l, .slice x2 F.length c2, .slice z2 W.length d2, .int .i64 m]] w fun e w' => e = .returned (.bool true) ∧ Below w.heap.size w w' := by
  have hXh := Lib.hid hX
  have hYh := Lib.hid hY
  have q1 := Lib.hid (TQ.new w l x F.length c z W.length d m 37)
  have q2 := Lib.hid (TQ.new (w.alloc (.cells #[.int .i64 l, .slice x F.length c, .slice z W.length d, .int .i64 m] 37)) l x2 F.length c2 z2 W.length d2 m 37)
  have q1 := Lib.hid (q1.out.below (show Below (w.alloc (.cells #[.int .i64 l, .slice x F.length c, .slice z W.length d, .int .i64 m] 37)).heap.size (w.alloc (.cells #[.int .i64 l, .slice x F.length c, .slice z W.length d, .int .i64 m] 37)) ((w.alloc (.cells #[.int .i64 l, .slice x F.length c, .slice z W.length d, .int .i64 m] 37)).alloc (.cells #[.int .i64 l, .slice x2 F.length c2, .slice z2 W.length d2, .int .i64 m] 37)) from (by repeat (first | exact Below.refl _ _ | assumption | refine Below.drew ?_ | refine below_drewN ?_ _ | refine Below.alloc' ?_ _ | (refine Below.setCell ?_ (by first | omega | (simp; done) | (simp; omega) | exact Below.size (by assumption) | exact Nat.le_trans (Below.size (by assumption)) (by simp)) _) | (refine Below.via' ?_ (by assumption)) | (refine Below.alloc ?_ (by first | omega | (simp; done) | (simp; omega) | exact Below.size (by assumption) | exact Nat.le_trans (Below.size (by assumption)) (by simp)) _) | (refine Below.via ?_ (by assumption) (by first | omega | (simp; done) | (simp; omega) | exact Below.size (by assumption) | exact Nat.le_trans (Below.size (by assumption)) (by simp)))))))
  replace q2 := q2.out
  rw [World.size_alloc] at q2
  replace q2 := Lib.hid q2
  clear hX hY
  go_enter Tryd.func15, Tryd.ntmps15
  go_wp2_with fail
  refine (eqIntS_any _ _ _ _ _ _ hmF (hXh.out.1.2.2.below (by exact (by repeat (first | exact Below.refl _ _ | assumption | refine Below.drew ?_ | refine below_drewN ?_ _ | refine Below.alloc' ?_ _ | (refine Below.setCell ?_ (by first | omega | (simp; done) | (simp; omega) | exact Below.size (by assumption) | exact Nat.le_trans (Below.size (by assumption)) (by simp)) _) | (refine Below.via' ?_ (by assumption)) | (refine Below.alloc ?_ (by first | omega | (simp; done) | (simp; omega) | exact Below.size (by assumption) | exact Nat.le_trans (Below.size (by assumption)) (by simp)) _) | (refine Below.via ?_ (by assumption) (by first | omega | (simp; done) | (simp; omega) | exact Below.size (by assumption) | exact Nat.le_trans (Below.size (by assumption)) (by simp))))))) (hYh.out.1.2.2.below (by exact (by repeat (first | exact Below.refl _ _ | assumption | refine Below.drew ?_ | refine below_drewN ?_ _ | refine Below.alloc' ?_ _ | (refine Below.setCell ?_ (by first | omega | (simp; done) | (simp; omega) | exact Below.size (by assumption) | exact Nat.le_trans (Below.size (by assumption)) (by simp)) _) | (refine Below.via' ?_ (by assumption)) | (refine Below.alloc ?_ (by first | omega | (simp; done) | (simp; omega) | exact Below.size (by assumption) | exact Nat.le_trans (Below.size (by assumption)) (by simp)) _) | (refine Below.via ?_ (by assumption) (by first | omega | (simp; done) | (simp; omega) | exact Below.size (by assumption) | exact Nat.le_trans (Below.size (by assumption)) (by simp)))))))).mono ?_
  rintro e w1 ⟨rfl, hb1⟩
  have B1 : Below w.heap.size w w1 := (by repeat (first | exact Below.refl _ _ | assumption | refine Below.drew ?_ | refine below_drewN ?_ _ | refine Below.alloc' ?_ _ | (refine Below.setCell ?_ (by first | omega | (simp; done) | (simp; omega) | exact Below.size (by assumption) | exact Nat.le_trans (Below.size (by assumption)) (by simp)) _) | (refine Below.via' ?_ (by assumption)) | (refine Below.alloc ?_ (by first | omega | (simp; done) | (simp; omega) | exact Below.size (by assumption) | exact Nat.le_trans (Below.size (by assumption)) (by simp)) _) | (refine Below.via ?_ (by assumption) (by first | omega | (simp; done) | (simp; omega) | exact Below.size (by assumption) | exact Nat.le_trans (Below.size (by assumption)) (by simp)))))
  have p1 := Lib.hid (q1.out.below hb1)
  have p2 := Lib.hid (q2.out.below hb1)
  obtain ⟨pa, pb, pc, pd, pe⟩ := p1.out
  obtain ⟨qa, qb, qc, qd, qe⟩ := p2.out
  clear q1 q2
  go_wp2_with fail
  refine (eqIntS_any _ _ _ _ _ _ hmW (hXh.out.2.2.2.below B1) (hYh.out.2.2.2.below B1)).mono ?_
  rintro e w2 ⟨rfl, hb2⟩
  obtain ⟨pa2, pb2, pc2, pd2, pe2⟩ := p1.out.below hb2
  obtain ⟨qa2, qb2, qc2, qd2, qe2⟩ := p2.out.below hb2
  clear pa pb pc pd qa qb qc qd
  go_wp2
  go_ret
  exact ⟨rfl, (by repeat (first | exact Below.refl _ _ | assumption | refine Below.drew ?_ | refine below_drewN ?_ _ | refine Below.alloc' ?_ _ | (refine Below.setCell ?_ (by first | omega | (simp; done) | (simp; omega) | exact Below.size (by assumption) | exact Nat.le_trans (Below.size (by assumption)) (by simp)) _) | (refine Below.via' ?_ (by assumption)) | (refine Below.alloc ?_ (by first | omega | (simp; done) | (simp; omega) | exact Below.size (by assumption) | exact Nat.le_trans (Below.size (by assumption)) (by simp)) _) | (refine Below.via ?_ (by assumption) (by first | omega | (simp; done) | (simp; omega) | exact Below.size (by assumption) | exact Nat.le_trans (Below.size (by assumption)) (by simp)))))⟩

theorem cellsT : Tryd.prog.cellsOf 27 = 4 := by kernel_rfl
/-- A table that comes in. -/
theorem open_table {H : Type} {enc : TypeId × Value → H} {W : World} {base : Nat} {v : Value} {d : DataW H} {p : List MemPlace} (hv : Value.okWide Tryd.prog W .any base 27 v)
    (h : DataW.Trod enc Tryd.prog W 0 (fun _ => true) true 27 v d p) : ∃ l x c F z e V m, v = .agg #[.int .i64 l, .slice x F.length c, .slice z V.length e, .int .i64 m] ∧ F.length ≤ 9223372036854775807 ∧ Hid (∀ n ∈ F, IsI64 n) ∧ Hid (Rd W x (iC F)) ∧ V.length ≤ 9223372036854775807 ∧ Hid (∀ n ∈ V, IsI64 n) ∧ Hid (Rd W z (iC V)) := by
  obtain ⟨c0, c1, c2, c3, y0, y1, y2, y3, n, rfl, rfl, rfl, hy0, hy1, hy2, hy3⟩ := open_agg4 Tryd.underlying27 (by kernel_rfl) cellsT hv h
  obtain ⟨a, e0, rfl, wa⟩ := DataW.trod_int Tryd.underlying3 hy0
  obtain ⟨b, e3, rfl, wb⟩ := DataW.trod_int Tryd.underlying3 hy3
  obtain ⟨x, c, F, hcs, hl, hn, hr⟩ := open_intC hy1
  obtain ⟨z, e, V, hcs2, hl2, hn2, hr2⟩ := open_intC hy2
  simp at e0 e3 hcs hcs2
  subst e0 e3 hcs hcs2
  exact ⟨a, x, c, F, z, e, V, b, rfl, hl, hn, hr, hl2, hn2, hr2⟩
end Go.Proofs.YtgkaalonmkcclaaDoor

namespace Go.Proofs.YtgkaalonmkcclaaDoor
open Go.RowKit
set_option maxRecDepth 100000

/-- Conditions and values that go with each other. -/
def TwF (W V : List Int) : Prop := W.length = V.length ∧ ∀ i, i < W.length → ∃ x v, W[i]? = some x ∧ V[i]? = some v ∧ 0 ≤ x ∧ x ≤ 255 ∧ 0 ≤ v ∧ v ≤ 8
theorem tw_fine {S : List (ByteArray × Int)} {W V : List Int} (hs : schB S = true) (hw : twB S W = true) (hf : fitB S V = true) : TwF W V := by
  have h1 := tw_len hw
  have h2 := fit_len hf
  refine ⟨by omega, fun i hi => ?_⟩
  have hW : W[i]? = some W[i] := List.getElem?_eq_getElem hi
  have hV : V[i]? = some (V[i]'(by omega)) := List.getElem?_eq_getElem _
  obtain ⟨nm, lv, hS, l1, l2, x0, -, x1⟩ := tw_get hs hw hW
  have := fit_get hf hS hV
  exact ⟨_, _, hW, hV, x0, x1, this.1, by omega⟩
theorem tw_pow {lv : Int} (h : 2 ≤ lv ∧ lv ≤ 8) : wrap64 (wrap64 (2 ^ lv.toNat) - 1) = 2 ^ lv.toNat - 1 := fl_eq h
theorem tw_kd {lv x : Int} (hx : x ≠ 0) : (kdZ lv x == 0) = !inB x 0 (2 ^ lv.toNat - 1) := by
  cases h : inB x 0 (2 ^ lv.toNat - 1)
  · rw [kdZ_no (by rw [inB_no] at h; unfold flZ; omega)]
    rfl
  · rw [inB_iff] at h
    have := kdZ_yes (lv := lv) (x := x) ⟨by omega, h.2⟩
    show (kdZ lv x == 0) = false
    rw [beq_eq_false_iff_ne]
    omega

set_option maxHeartbeats 2000000 in
theorem areCond_any (x y : Option Addr) (c1 c2 : Nat) (S : List (ByteArray × Int)) (W : List Int) (w : World) (hs : schB S = true) (hm : S.length ≤ 1048576) (hS : Rd w x (vC S)) (hW : IIn w y W) :
    Calls Tryd.prog 53 #[.slice x S.length c1, .slice y W.length c2] w fun e w' => e = .returned (.bool (twB S W)) ∧ Below w.heap.size w w' := by
  have hWl := hW.1
  have hWh := Lib.hid hW.2.2
  clear hW
  have hSh := Lib.hid hS
  clear hS
  have hsh := Lib.hid hs
  clear hs
  by_cases hl : W.length = S.length
  · have he1 : ((W.length : Int) == (S.length : Int)) = true := by rw [beq_iff_eq]; omega
    have he2 : ((W.length : Int) != (S.length : Int)) = false := by show (!((W.length : Int) == (S.length : Int))) = false; rw [he1]; rfl
    replace hl := Lib.hid hl
    go_enter Tryd.func53, Tryd.ntmps53
    go_wp2
    clear he1 he2
    go_loopw [14] (fun c wr => ∃ i : Nat, i ≤ S.length ∧ c = .int .i64 i ∧ Hid (∀ j, j < i → ∃ nm lv x, S[j]? = some (nm, lv) ∧ W[j]? = some x ∧ inB x 0 (2 ^ lv.toNat - 1) = true) ∧ Below w.heap.size w wr) (fun c _ => S.length - (intOf c).toNat)
    case atStart => exact ⟨0, by omega, rfl, (fun j hj => absurd hj (by omega)), Below.refl _ _⟩
    case round =>
      obtain ⟨i, hi, rfl, hall, hb⟩ := hrel
      by_cases hlt : i < S.length
      · obtain ⟨bl, off, nm, lv, rfl, hbl, hSi, hc0, hc1⟩ := (hSh.out.below hb).var hlt
        obtain ⟨bl2, off2, v, rfl, hbl2, hWi, hc2⟩ := (hWh.out.below hb).int (i := i) (by have := hl.out; omega)
        have l12 := schB_lv hsh.out hSi
        have hlt' : (i : Int) < (S.length : Int) := by omega
        have hlt2 : (i : Int) < (W.length : Int) := by have := hl.out; omega
        have hi0 : (0 : Int) ≤ (i : Int) := by omega
        by_cases h0 : v = 0
        · have hin : inB v 0 (2 ^ lv.toNat - 1) = true := by
            rw [inB_iff]
            have := flZ_bd l12
            unfold flZ at this
            omega
          have hin := Lib.hid hin
          have hz : (v != 0) = false := by rw [h0]; rfl
          replace h0 := Lib.hid h0
          replace hSi := Lib.hid hSi
          replace hWi := Lib.hid hWi
          go_wp2
          first | go_quiet (fail) | fail
          go_wp2
          go_roundw
          case rel =>
            refine ⟨i + 1, by omega, by go_num, fun j hj => ?_, (by repeat (first | exact Below.refl _ _ | assumption | refine Below.drew ?_ | refine below_drewN ?_ _ | refine Below.alloc' ?_ _ | (refine Below.setCell ?_ (by first | omega | (simp; done) | (simp; omega) | exact Below.size (by assumption) | exact Nat.le_trans (Below.size (by assumption)) (by simp)) _) | (refine Below.via' ?_ (by assumption)) | (refine Below.alloc ?_ (by first | omega | (simp; done) | (simp; omega) | exact Below.size (by assumption) | exact Nat.le_trans (Below.size (by assumption)) (by simp)) _) | (refine Below.via ?_ (by assumption) (by first | omega | (simp; done) | (simp; omega) | exact Below.size (by assumption) | exact Nat.le_trans (Below.size (by assumption)) (by simp)))))⟩
            rcases Nat.lt_or_ge j i with hj2 | hj2
            · exact hall.out j hj2
            · obtain rfl : j = i := by omega
              exact ⟨nm, lv, v, hSi.out, hWi.out, hin.out⟩
          case measure => simp [intOf]; omega
        have hz : (v != 0) = true := by simpa using h0
        have hkd := tw_kd (lv := lv) h0
        replace h0 := Lib.hid h0
        cases hin : inB v 0 (2 ^ lv.toNat - 1)
        · have hv := Lib.hid (tw_bad hSi hWi hin)
          rw [hin] at hkd
          have hkd : (kdZ lv v == 0) = true := hkd
          replace hSi := Lib.hid hSi
          replace hWi := Lib.hid hWi
          replace hin := Lib.hid hin
          go_wp2
          go_region_held3 (fun w' => Below ((wr.alloc (.cells #[.string nm, .int .i64 lv] 52))).heap.size ((wr.alloc (.cells #[.string nm, .int .i64 lv] 52))) w' ∧ (∀ b o, b < ((wr.alloc (.cells #[.string nm, .int .i64 lv] 52))).heap.size → w'.cell? ⟨b, o, none⟩ = ((wr.alloc (.cells #[.string nm, .int .i64 lv] 52))).cell? ⟨b, o, none⟩)) (first | exact keep_of (Below.refl _ _) | ((try go_split_ands); exact keep_of (by repeat (first | exact Below.refl _ _ | assumption | refine Below.drew ?_ | refine below_drewN ?_ _ | refine Below.alloc' ?_ _ | (refine Below.setCell ?_ (by first | omega | (simp; done) | (simp; omega) | exact Below.size (by assumption) | exact Nat.le_trans (Below.size (by assumption)) (by simp)) _) | (refine Below.via' ?_ (by assumption)) | (refine Below.alloc ?_ (by first | omega | (simp; done) | (simp; omega) | exact Below.size (by assumption) | exact Nat.le_trans (Below.size (by assumption)) (by simp)) _) | (refine Below.via ?_ (by assumption) (by first | omega | (simp; done) | (simp; omega) | exact Below.size (by assumption) | exact Nat.le_trans (Below.size (by assumption)) (by simp))))))) ((go_at_call 70; refine (kindOfSet_any _ _ _ _ l12).mono ?_; rintro e w1 ⟨rfl, hb1⟩)); rename_i hH; obtain ⟨hb1, hcl1⟩ := hH; have hz1 := hb1.size; (try simp at hz1); (try (have hly1 := Nat.lt_of_succ_le hz1)); (try (have hlx1 := Nat.lt_of_succ_lt hly1)); (try (have hlw1 := Nat.lt_of_succ_lt hlx1)); (try (have hle1 := Nat.le_of_lt hly1)); (try (have hya1 : w.heap.size < w1.heap.size := by omega)); (try (have hyb1 : w.heap.size + 1 < w1.heap.size := by omega)); (try (have hyc1 : w.heap.size + 1 + 1 < w1.heap.size := by omega)); (try (have hyd1 : wa.heap.size < w1.heap.size := by omega))
          go_wp2
          go_ret
          exact ⟨ret_bool hv.out.symm, (by repeat (first | exact Below.refl _ _ | assumption | refine Below.drew ?_ | refine below_drewN ?_ _ | refine Below.alloc' ?_ _ | (refine Below.setCell ?_ (by first | omega | (simp; done) | (simp; omega) | exact Below.size (by assumption) | exact Nat.le_trans (Below.size (by assumption)) (by simp)) _) | (refine Below.via' ?_ (by assumption)) | (refine Below.alloc ?_ (by first | omega | (simp; done) | (simp; omega) | exact Below.size (by assumption) | exact Nat.le_trans (Below.size (by assumption)) (by simp)) _) | (refine Below.via ?_ (by assumption) (by first | omega | (simp; done) | (simp; omega) | exact Below.size (by assumption) | exact Nat.le_trans (Below.size (by assumption)) (by simp)))))⟩
        · rw [hin] at hkd
          have hkd : (kdZ lv v == 0) = false := hkd
          replace hSi := Lib.hid hSi
          replace hWi := Lib.hid hWi
          replace hin := Lib.hid hin
          go_wp2
          go_region_held3 (fun w' => Below ((wr.alloc (.cells #[.string nm, .int .i64 lv] 52))).heap.size ((wr.alloc (.cells #[.string nm, .int .i64 lv] 52))) w' ∧ (∀ b o, b < ((wr.alloc (.cells #[.string nm, .int .i64 lv] 52))).heap.size → w'.cell? ⟨b, o, none⟩ = ((wr.alloc (.cells #[.string nm, .int .i64 lv] 52))).cell? ⟨b, o, none⟩)) (first | exact keep_of (Below.refl _ _) | ((try go_split_ands); exact keep_of (by repeat (first | exact Below.refl _ _ | assumption | refine Below.drew ?_ | refine below_drewN ?_ _ | refine Below.alloc' ?_ _ | (refine Below.setCell ?_ (by first | omega | (simp; done) | (simp; omega) | exact Below.size (by assumption) | exact Nat.le_trans (Below.size (by assumption)) (by simp)) _) | (refine Below.via' ?_ (by assumption)) | (refine Below.alloc ?_ (by first | omega | (simp; done) | (simp; omega) | exact Below.size (by assumption) | exact Nat.le_trans (Below.size (by assumption)) (by simp)) _) | (refine Below.via ?_ (by assumption) (by first | omega | (simp; done) | (simp; omega) | exact Below.size (by assumption) | exact Nat.le_trans (Below.size (by assumption)) (by simp))))))) ((go_at_call 70; refine (kindOfSet_any _ _ _ _ l12).mono ?_; rintro e w1 ⟨rfl, hb1⟩)); rename_i hH; obtain ⟨hb1, hcl1⟩ := hH; have hz1 := hb1.size; (try simp at hz1); (try (have hly1 := Nat.lt_of_succ_le hz1)); (try (have hlx1 := Nat.lt_of_succ_lt hly1)); (try (have hlw1 := Nat.lt_of_succ_lt hlx1)); (try (have hle1 := Nat.le_of_lt hly1)); (try (have hya1 : w.heap.size < w1.heap.size := by omega)); (try (have hyb1 : w.heap.size + 1 < w1.heap.size := by omega)); (try (have hyc1 : w.heap.size + 1 + 1 < w1.heap.size := by omega)); (try (have hyd1 : wa.heap.size < w1.heap.size := by omega))
          go_wp2
          go_roundw
          case rel =>
            refine ⟨i + 1, by omega, by go_num, fun j hj => ?_, (by repeat (first | exact Below.refl _ _ | assumption | refine Below.drew ?_ | refine below_drewN ?_ _ | refine Below.alloc' ?_ _ | (refine Below.setCell ?_ (by first | omega | (simp; done) | (simp; omega) | exact Below.size (by assumption) | exact Nat.le_trans (Below.size (by assumption)) (by simp)) _) | (refine Below.via' ?_ (by assumption)) | (refine Below.alloc ?_ (by first | omega | (simp; done) | (simp; omega) | exact Below.size (by assumption) | exact Nat.le_trans (Below.size (by assumption)) (by simp)) _) | (refine Below.via ?_ (by assumption) (by first | omega | (simp; done) | (simp; omega) | exact Below.size (by assumption) | exact Nat.le_trans (Below.size (by assumption)) (by simp)))))⟩
            rcases Nat.lt_or_ge j i with hj2 | hj2
            · exact hall.out j hj2
            · obtain rfl : j = i := by omega
              exact ⟨nm, lv, v, hSi.out, hWi.out, hin.out⟩
          case measure => simp [intOf]; omega
      · have hij : i = S.length := by omega
        subst hij
        have hv := Lib.hid (tw_all hl.out hall.out)
        clear hall
        go_wp2
        go_ret
        exact ⟨ret_bool hv.out.symm, (by repeat (first | exact Below.refl _ _ | assumption | refine Below.drew ?_ | refine below_drewN ?_ _ | refine Below.alloc' ?_ _ | (refine Below.setCell ?_ (by first | omega | (simp; done) | (simp; omega) | exact Below.size (by assumption) | exact Nat.le_trans (Below.size (by assumption)) (by simp)) _) | (refine Below.via' ?_ (by assumption)) | (refine Below.alloc ?_ (by first | omega | (simp; done) | (simp; omega) | exact Below.size (by assumption) | exact Nat.le_trans (Below.size (by assumption)) (by simp)) _) | (refine Below.via ?_ (by assumption) (by first | omega | (simp; done) | (simp; omega) | exact Below.size (by assumption) | exact Nat.le_trans (Below.size (by assumption)) (by simp)))))⟩
  · have hv := Lib.hid (tw_no hl)
    have hne : ((W.length : Int) == (S.length : Int)) = false := by rw [beq_eq_false_iff_ne]; omega
    go_enter Tryd.func53, Tryd.ntmps53
    go_wp2
    go_ret
    exact ⟨ret_bool hv.out.symm, (by repeat (first | exact Below.refl _ _ | assumption | refine Below.drew ?_ | refine below_drewN ?_ _ | refine Below.alloc' ?_ _ | (refine Below.setCell ?_ (by first | omega | (simp; done) | (simp; omega) | exact Below.size (by assumption) | exact Nat.le_trans (Below.size (by assumption)) (by simp)) _) | (refine Below.via' ?_ (by assumption)) | (refine Below.alloc ?_ (by first | omega | (simp; done) | (simp; omega) | exact Below.size (by assumption) | exact Nat.le_trans (Below.size (by assumption)) (by simp)) _) | (refine Below.via ?_ (by assumption) (by first | omega | (simp; done) | (simp; omega) | exact Below.size (by assumption) | exact Nat.le_trans (Below.size (by assumption)) (by simp)))))⟩

set_option maxHeartbeats 2000000 in
theorem uWhere_any (x y : Option Addr) (c1 c2 : Nat) (S : List (ByteArray × Int)) (W : List Int) (w : World) (hs : schB S = true) (hm : S.length ≤ 1048576) (hS : Rd w x (vC S)) (hW : IIn w y W) :
    Calls Tryd.prog 38 #[.slice x S.length c1, .slice y W.length c2] w fun e w' => e = .returned (.bool (twB S W)) ∧ Below w.heap.size w w' := by
  have hWl := hW.1
  have hWh := Lib.hid hW.2.2
  clear hW
  have hSh := Lib.hid hS
  clear hS
  have hsh := Lib.hid hs
  clear hs
  by_cases hl : W.length = S.length
  · have he1 : ((W.length : Int) == (S.length : Int)) = true := by rw [beq_iff_eq]; omega
    have he2 : ((W.length : Int) != (S.length : Int)) = false := by show (!((W.length : Int) == (S.length : Int))) = false; rw [he1]; rfl
    replace hl := Lib.hid hl
    go_enter Tryd.func38, Tryd.ntmps38
    go_wp2
    clear he1 he2
    go_loopw [14] (fun c wr => ∃ i : Nat, i ≤ S.length ∧ c = .int .i64 i ∧ Hid (∀ j, j < i → ∃ nm lv x, S[j]? = some (nm, lv) ∧ W[j]? = some x ∧ inB x 0 (2 ^ lv.toNat - 1) = true) ∧ Below w.heap.size w wr) (fun c _ => S.length - (intOf c).toNat)
    case atStart => exact ⟨0, by omega, rfl, (fun j hj => absurd hj (by omega)), Below.refl _ _⟩
    case round =>
      obtain ⟨i, hi, rfl, hall, hb⟩ := hrel
      by_cases hlt : i < S.length
      · obtain ⟨bl, off, nm, lv, rfl, hbl, hSi, hc0, hc1⟩ := (hSh.out.below hb).var hlt
        obtain ⟨bl2, off2, v, rfl, hbl2, hWi, hc2⟩ := (hWh.out.below hb).int (i := i) (by have := hl.out; omega)
        have l12 := schB_lv hsh.out hSi
        have hpw := tw_pow l12
        have l1 := l12.1
        have l2 := l12.2
        have hlt' : (i : Int) < (S.length : Int) := by omega
        have hlt2 : (i : Int) < (W.length : Int) := by have := hl.out; omega
        have hi0 : (0 : Int) ≤ (i : Int) := by omega
        have hcv : IntKind.u64.wrap lv = lv := by rw [show IntKind.u64.wrap lv = lv % 18446744073709551616 by simp [IntKind.wrap, IntKind.bits, IntKind.signed]]; omega
        cases hin : inB v 0 (2 ^ lv.toNat - 1)
        · have hv := Lib.hid (tw_bad hSi hWi hin)
          rw [← hpw] at hin
          replace hpw := Lib.hid hpw
          replace hSi := Lib.hid hSi
          replace hWi := Lib.hid hWi
          go_wp2
          go_quiet (first | (go_at_call 28; exact Calls.quiet_of_same ((l1In_any _ _ _ _).mono fun _ _ h => ⟨h.1, h.2.symm⟩)))
          go_wp2
          go_ret
          exact ⟨ret_bool hv.out.symm, (by repeat (first | exact Below.refl _ _ | assumption | refine Below.drew ?_ | refine below_drewN ?_ _ | refine Below.alloc' ?_ _ | (refine Below.setCell ?_ (by first | omega | (simp; done) | (simp; omega) | exact Below.size (by assumption) | exact Nat.le_trans (Below.size (by assumption)) (by simp)) _) | (refine Below.via' ?_ (by assumption)) | (refine Below.alloc ?_ (by first | omega | (simp; done) | (simp; omega) | exact Below.size (by assumption) | exact Nat.le_trans (Below.size (by assumption)) (by simp)) _) | (refine Below.via ?_ (by assumption) (by first | omega | (simp; done) | (simp; omega) | exact Below.size (by assumption) | exact Nat.le_trans (Below.size (by assumption)) (by simp)))))⟩
        · have hin2 := Lib.hid hin
          rw [← hpw] at hin
          replace hpw := Lib.hid hpw
          replace hSi := Lib.hid hSi
          replace hWi := Lib.hid hWi
          go_wp2
          go_quiet (first | (go_at_call 28; exact Calls.quiet_of_same ((l1In_any _ _ _ _).mono fun _ _ h => ⟨h.1, h.2.symm⟩)))
          go_wp2
          go_roundw
          case rel =>
            refine ⟨i + 1, by omega, by go_num, fun j hj => ?_, (by repeat (first | exact Below.refl _ _ | assumption | refine Below.drew ?_ | refine below_drewN ?_ _ | refine Below.alloc' ?_ _ | (refine Below.setCell ?_ (by first | omega | (simp; done) | (simp; omega) | exact Below.size (by assumption) | exact Nat.le_trans (Below.size (by assumption)) (by simp)) _) | (refine Below.via' ?_ (by assumption)) | (refine Below.alloc ?_ (by first | omega | (simp; done) | (simp; omega) | exact Below.size (by assumption) | exact Nat.le_trans (Below.size (by assumption)) (by simp)) _) | (refine Below.via ?_ (by assumption) (by first | omega | (simp; done) | (simp; omega) | exact Below.size (by assumption) | exact Nat.le_trans (Below.size (by assumption)) (by simp)))))⟩
            rcases Nat.lt_or_ge j i with hj2 | hj2
            · exact hall.out j hj2
            · obtain rfl : j = i := by omega
              exact ⟨nm, lv, v, hSi.out, hWi.out, hin2.out⟩
          case measure => simp [intOf]; omega
      · have hij : i = S.length := by omega
        subst hij
        have hv := Lib.hid (tw_all hl.out hall.out)
        clear hall
        go_wp2
        go_ret
        exact ⟨ret_bool hv.out.symm, (by repeat (first | exact Below.refl _ _ | assumption | refine Below.drew ?_ | refine below_drewN ?_ _ | refine Below.alloc' ?_ _ | (refine Below.setCell ?_ (by first | omega | (simp; done) | (simp; omega) | exact Below.size (by assumption) | exact Nat.le_trans (Below.size (by assumption)) (by simp)) _) | (refine Below.via' ?_ (by assumption)) | (refine Below.alloc ?_ (by first | omega | (simp; done) | (simp; omega) | exact Below.size (by assumption) | exact Nat.le_trans (Below.size (by assumption)) (by simp)) _) | (refine Below.via ?_ (by assumption) (by first | omega | (simp; done) | (simp; omega) | exact Below.size (by assumption) | exact Nat.le_trans (Below.size (by assumption)) (by simp)))))⟩
  · have hv := Lib.hid (tw_no hl)
    have hne : ((W.length : Int) == (S.length : Int)) = false := by rw [beq_eq_false_iff_ne]; omega
    go_enter Tryd.func38, Tryd.ntmps38
    go_wp2
    go_ret
    exact ⟨ret_bool hv.out.symm, (by repeat (first | exact Below.refl _ _ | assumption | refine Below.drew ?_ | refine below_drewN ?_ _ | refine Below.alloc' ?_ _ | (refine Below.setCell ?_ (by first | omega | (simp; done) | (simp; omega) | exact Below.size (by assumption) | exact Nat.le_trans (Below.size (by assumption)) (by simp)) _) | (refine Below.via' ?_ (by assumption)) | (refine Below.alloc ?_ (by first | omega | (simp; done) | (simp; omega) | exact Below.size (by assumption) | exact Nat.le_trans (Below.size (by assumption)) (by simp)) _) | (refine Below.via ?_ (by assumption) (by first | omega | (simp; done) | (simp; omega) | exact Below.size (by assumption) | exact Nat.le_trans (Below.size (by assumption)) (by simp)))))⟩
end Go.Proofs.YtgkaalonmkcclaaDoor

namespace Go.Proofs.YtgkaalonmkcclaaDoor
open Go.RowKit
set_option maxRecDepth 100000

/-- What slices.Index tells of a list and a number. -/
def ixP (L : List Int) (n k : Int) : Prop := -1 ≤ k ∧ k < 1048577 ∧ decide (0 ≤ k) = L.contains n
end Go.Proofs.YtgkaalonmkcclaaDoor
