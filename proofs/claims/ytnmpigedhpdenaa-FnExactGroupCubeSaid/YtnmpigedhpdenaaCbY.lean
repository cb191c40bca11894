/-
  Cubes that are answered: two rows that are owned, a cube's box behind a drawn region, marks.
-/
import Derived.Test.YtnmpigedhpdenaaCbL
namespace Go.Proofs.Ytnmpigedhpdenaa
open Go.RowKit
set_option maxRecDepth 100000

/-- A cube's two lists that are owned: apart from each other, whichever lies first. -/
def OwU (w : World) (lo hi : Nat) (u v : Value) (F W : List Int) : Prop := ∃ a b c d, lo ≤ a ∧ b ≤ hi ∧ lo ≤ c ∧ d ≤ hi ∧ (b ≤ c ∨ d ≤ a) ∧ OwR w a b 3 1 u F.length (iC F) ∧ OwR w c d 3 1 v W.length (iC W)
theorem grown_setU (W : World) (p : Addr) (v : Value) : W.grownBy (W.setCell p v) (some p.block) :=
  ⟨rfl, rfl, rfl, by simp [World.setCell], fun k _ hk => Below.heap_setCell _ _ _ k (fun e => hk (by rw [e]))⟩
section
variable {w w' : World} {lo hi : Nat} {u v : Value} {F W : List Int}
theorem OwU.below (h : OwU w lo hi u v F W) (hb : Below w.heap.size w w') : OwU w' lo hi u v F W := by
  obtain ⟨a, b, c, d, h1, h2, h3, h4, h5, p, q⟩ := h
  exact ⟨a, b, c, d, h1, h2, h3, h4, h5, p.below hb, q.below hb⟩
theorem OwU.off {lo2 hi2 : Nat} (h : OwU w lo hi u v F W) (hg : Off lo2 hi2 w w') (hne : hi ≤ lo2 ∨ hi2 ≤ lo) : OwU w' lo hi u v F W := by
  obtain ⟨a, b, c, d, h1, h2, h3, h4, h5, p, q⟩ := h
  exact ⟨a, b, c, d, h1, h2, h3, h4, h5, p.off hg (by omega), q.off hg (by omega)⟩
theorem OwU.keep {r : Option Nat} (h : OwU w lo hi u v F W) (hg : w.grownBy w' r) (hr : ∀ k, r = some k → k < lo ∨ hi ≤ k) : OwU w' lo hi u v F W := by
  obtain ⟨a, b, c, d, h1, h2, h3, h4, h5, p, q⟩ := h
  exact ⟨a, b, c, d, h1, h2, h3, h4, h5, p.keep hg (fun k hk => by have := hr k hk; omega), q.keep hg (fun k hk => by have := hr k hk; omega)⟩
theorem OwU.more {lo' hi' : Nat} (h : OwU w lo hi u v F W) (h1' : lo' ≤ lo) (h2' : hi ≤ hi') : OwU w lo' hi' u v F W := by
  obtain ⟨a, b, c, d, h1, h2, h3, h4, h5, p, q⟩ := h
  exact ⟨a, b, c, d, by omega, by omega, by omega, by omega, h5, p, q⟩
theorem OwU.aside (h : OwU w lo hi u v F W) (p : Addr) (q : Value) (hp : p.block < lo ∨ hi ≤ p.block) : OwU (w.setCell p q) lo hi u v F W :=
  h.keep (grown_setU w p q) (fun k hk => by obtain rfl := Option.some.inj hk; exact hp)
theorem OwU.form (h : OwU w lo hi u v F W) : ∃ x c z d, u = .slice x F.length c ∧ v = .slice z W.length d := by
  obtain ⟨a, b, c, d, -, -, -, -, -, p, q⟩ := h
  obtain ⟨x, c, rfl, -⟩ := p.form
  obtain ⟨z, d, rfl, -⟩ := q.form
  exact ⟨x, c, z, d, rfl, rfl⟩
theorem OwU.nil (hB : lo ≤ hi) (w : World) : OwU w lo hi (.slice none 0 0) (.slice none 0 0) [] [] :=
  ⟨lo, lo, lo, lo, Nat.le_refl _, hB, Nat.le_refl _, hB, Or.inl (Nat.le_refl _), ⟨World.ownsRow_nil _ _ _ _, fun k hk => by cases hk⟩, ⟨World.ownsRow_nil _ _ _ _, fun k hk => by cases hk⟩⟩
end
theorem OwU.rd {w : World} {lo hi : Nat} {x z : Option Addr} {c d : Nat} {F W : List Int} (h : OwU w lo hi (.slice x F.length c) (.slice z W.length d) F W) : Rd w x (iC F) ∧ Rd w z (iC W) := by
  obtain ⟨_, _, _, _, -, -, -, -, -, p, q⟩ := h
  exact ⟨p.rd, q.rd⟩
theorem CIn.of_owU {w : World} {lo hi : Nat} {x z : Option Addr} {c d : Nat} {F W : List Int} (h : OwU w lo hi (.slice x F.length c) (.slice z W.length d) F W) (hF : F.length ≤ 1048576) (hW : W.length ≤ 1048576) (hnF : ∀ n ∈ F, IsI64 n) (hnW : ∀ n ∈ W, IsI64 n) : CIn w x z F W := ⟨⟨hF, hnF, h.rd.1⟩, ⟨hW, hnW, h.rd.2⟩⟩
/-- A cube and a Bool, handed back. -/
def RetCu (R : List Int × List Int) (b : Bool) (w : World) (e : Ending) (w' : World) : Prop :=
  ∃ x c z d, e = .returned (.tuple #[.agg #[.slice x R.1.length c, .slice z R.2.length d], .bool b]) ∧ OwU w' w.heap.size w'.heap.size (.slice x R.1.length c) (.slice z R.2.length d) R.1 R.2 ∧ Below w.heap.size w w'
theorem retCu_no {R : List Int × List Int} {b : Bool} {w w' : World} (k : b = false) (hR : R = ([], [])) (hB : Below w.heap.size w w') : RetCu R b w (.returned (.tuple #[.agg #[.slice none 0 0, .slice none 0 0], .bool false])) w' := by
  subst k hR
  exact ⟨none, 0, none, 0, rfl, OwU.nil hB.size _, hB⟩
theorem retCu_yes {R : List Int × List Int} {b : Bool} {w w' : World} {x z : Option Addr} {c d : Nat} {F W : List Int} (k : b = true) (hR : R = (F, W)) (ho : OwU w' w.heap.size w'.heap.size (.slice x F.length c) (.slice z W.length d) F W) (hB : Below w.heap.size w w') : RetCu R b w (.returned (.tuple #[.agg #[.slice x F.length c, .slice z W.length d], .bool true])) w' := by
  subst k hR
  exact ⟨x, c, z, d, rfl, ho, hB⟩
theorem cq_of_wb {w : World} {g t : Nat} {x : Option Addr} {n c : Nat} {z : Option Addr} {k d : Nat} (h : Wb w g t #[.slice x n c, .slice z k d]) : CQ w g x n c z k d :=
  ⟨(h.read 0).trans rfl, (h.read 1).trans rfl, h.inside⟩
/-- A cube's box, with its two lists. -/
def CuAt (s : Value) (R : List Int × List Int) (lo : Nat) (wx : World) : Prop :=
  ∃ g x c z d a b, s = .pointer (some ⟨g, 0, none⟩) ∧ CQ wx g x R.1.length c z R.2.length d ∧ lo ≤ g ∧ lo ≤ a ∧ b ≤ wx.heap.size ∧ (g < a ∨ b ≤ g) ∧ OwU wx a b (.slice x R.1.length c) (.slice z R.2.length d) R.1 R.2
theorem cuAt_of {w : World} {g t lo a b c d : Nat} {x z : Option Addr} {R : List Int × List Int} (bx : Wb w g t #[.slice none 0 0, .slice none 0 0]) (ho : OwU w a b (.slice x R.1.length c) (.slice z R.2.length d) R.1 R.2) (h1 : lo ≤ g) (h2 : lo ≤ a) (h3 : b ≤ w.heap.size) (h4 : g < a ∨ b ≤ g) :
    CuAt (.pointer (some ⟨g, 0, none⟩)) R lo ((w.setCell ⟨g, 0, none⟩ (.slice x R.1.length c)).setCell ⟨g, 1, none⟩ (.slice z R.2.length d)) :=
  ⟨g, x, c, z, d, a, b, rfl, cq_of_wb ((bx.put 0 _).put 1 _), h1, h2, by simpa using h3, h4, (ho.aside _ _ h4).aside _ _ h4⟩
theorem cuAt_new {w : World} {lo a b c d : Nat} {x z : Option Addr} {R : List Int × List Int} (ho : OwU w a b (.slice x R.1.length c) (.slice z R.2.length d) R.1 R.2) (h1 : lo ≤ w.heap.size) (h2 : lo ≤ a) (h3 : b ≤ w.heap.size) :
    CuAt (.pointer (some ⟨w.heap.size, 0, none⟩)) R lo (w.alloc (.cells #[.slice x R.1.length c, .slice z R.2.length d] 27)) :=
  ⟨w.heap.size, x, c, z, d, a, b, rfl, cq_of_wb (Wb.new _ _ _), h1, h2, by simp; omega, Or.inr h3, ho.below (Below.alloc' (Below.refl _ _) _)⟩
theorem below_set2 {n : Nat} {w X : World} {g : Nat} {a b : Value} (h : Below n w X) (hg : n ≤ g) : Below n w ((X.setCell ⟨g, 0, none⟩ a).setCell ⟨g, 1, none⟩ b) := (h.setCell hg _).setCell hg _
theorem markCubeU_any (x z : Option Addr) (c d : Nat) (k : Int) (F W : List Int) (lo hi : Nat) (w : World) (hk : 0 ≤ k) (hk2 : k ≤ 100000000000) (hmF : F.length ≤ 1048576) (hmW : W.length ≤ 1048576) (hown : OwU w lo hi (.slice x F.length c) (.slice z W.length d) F W) :
    Calls Try.prog 26 #[.agg #[.slice x F.length c, .slice z W.length d], .int .i64 k] w fun e w' => e = .returned (.int .i64 (k + F.length + W.length)) ∧ Rd w' x (iC (mkL k F.length)) ∧ Rd w' z (iC (mkL (k + F.length) W.length)) ∧ Off lo hi w w' := by
  obtain ⟨a, b, c0, d0, h1, h2, h3, h4, h5, hF, hW⟩ := hown
  have q1 := Lib.hid (CQ.new w x F.length c z W.length d 27)
  have hbA : Below w.heap.size w (w.alloc (.cells #[.slice x F.length c, .slice z W.length d] 27)) := (by repeat (first | exact Below.refl _ _ | assumption | refine Below.drew ?_ | refine below_drewN ?_ _ | refine Below.alloc' ?_ _ | (refine Below.setCell ?_ (by first | omega | (simp; done) | (simp; omega) | exact Below.size (by assumption) | exact Nat.le_trans (Below.size (by assumption)) (by simp)) _) | (refine Below.via' ?_ (by assumption)) | (refine Below.alloc ?_ (by first | omega | (simp; done) | (simp; omega) | exact Below.size (by assumption) | exact Nat.le_trans (Below.size (by assumption)) (by simp)) _) | (refine Below.via ?_ (by assumption) (by first | omega | (simp; done) | (simp; omega) | exact Below.size (by assumption) | exact Nat.le_trans (Below.size (by assumption)) (by simp)))))
  have hltF := Lib.hid hF.1.lt
  have hFh := Lib.hid (hF.below hbA)
  have hWh := Lib.hid (hW.below hbA)
  clear hF hW
  go_enter Try.func26, Try.ntmps26
  go_wp2_with fail
  refine (markIntS_any _ _ _ _ _ _ _ hk (by omega) hmF hFh.out.1).mono ?_
  rintro e w1 ⟨rfl, hmk1, hg1⟩
  have hw1 := Lib.hid (hWh.out.keep hg1 (fun k hk => by have := hFh.out.2 k hk; omega))
  have hf1 := Lib.hid (hFh.out.turn hmk1)
  obtain ⟨pa, pb, pc⟩ := q1.out.grown hg1 (fun e => by have := hltF.out _ e.symm; omega)
  have o1 := Lib.hid ((Off.of_below hbA).trans (Off.of_grown hg1 (fun k hk => (by have := hFh.out.2 k hk; omega : lo ≤ k ∧ k < hi))))
  clear hg1 hmk1
  go_wp2_with fail
  refine (markIntS_any _ _ _ _ _ _ _ (by omega) (by omega) hmW hw1.out.1).mono ?_
  rintro e w2 ⟨rfl, hmk2, hg2⟩
  have hf2 := Lib.hid (hf1.out.keep hg2 (fun k hk => by have := hw1.out.2 k hk; omega))
  have hw2 := Lib.hid (hw1.out.turn hmk2)
  have o2 := Lib.hid (o1.out.trans (Off.of_grown hg2 (fun k hk => (by have := hw1.out.2 k hk; omega : lo ≤ k ∧ k < hi))))
  clear hg2 hmk2
  go_wp2
  go_ret
  exact ⟨rfl, hf2.out.rd, hw2.out.rd, o2.out⟩
end Go.Proofs.Ytnmpigedhpdenaa
