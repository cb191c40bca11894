/- The law of ReplaceValues: for every slice of structs of a string and an integer, every struct of two integers and a slice of integers, and every slice of integers, the program's ReplaceValues answers as the model's, its answer owns its memory, nothing that was there is written, and the arguments read as before. No condition. -/
import Derived.Test.YtdakmdjcmjpogaaRecO
import Derived.Test.YtdakmdjcmjpogaaRecV
import Derived.Test.YtdakmdjcmjpogaaRecM
import Derived.Deep.DeepCutAuto
namespace Go.Proofs.Ytdakmdjcmjpogaa
open Go.ChangeShapes Go.WideShapes Go.ChangeAt Go.RowKit
set_option maxRecDepth 100000

/-- A record that lies in a box of its own, apart from its values. -/
def RvAt (s : Value) (b : Bool) (a h : Int) (V : List Int) (lo : Nat) (wx : World) : Prop :=
  ∃ g x c, s = .pointer (some ⟨g, 0, none⟩) ∧ RB wx g (rvZ b a) (rvZ b h) x (rvI b V).length c ∧ lo ≤ g ∧ OwR wx lo wx.heap.size 3 1 (.slice x (rvI b V).length c) (rvI b V).length (iC (rvI b V)) ∧ ∀ k, (Value.slice x (rvI b V).length c).ownBlock = some k → k ≠ g
theorem drew_size (w : World) : w.drew.heap.size = w.heap.size := rfl
theorem set_grown (w : World) (g o : Nat) (u : Value) : w.grownBy (w.setCell ⟨g, o, none⟩ u) (some g) :=
  ⟨rfl, rfl, rfl, by simp, fun k hk hne => by
    have : g ≠ k := fun e => hne (by rw [e])
    simp [World.setCell, Array.getElem?_modify, this]⟩
theorem own_box {w : World} {lo hi e n g : Nat} {v u0 u1 u2 : Value} {xs : List Value} (h : OwR w lo hi e 1 v n xs) (hne : ∀ k, v.ownBlock = some k → k ≠ g) : OwR (((w.setCell ⟨g, 0, none⟩ u0).setCell ⟨g, 1, none⟩ u1).setCell ⟨g, 2, none⟩ u2) lo hi e 1 v n xs := by
  have hk : v.ownBlock = none ∨ v.ownBlock ≠ some g := by
    cases hv : v.ownBlock with
    | none => exact Or.inl rfl
    | some k => exact Or.inr (fun e => by injection e with e; exact hne k hv e)
  exact ⟨(((h.1.kept (set_grown w g 0 u0) hk).kept (set_grown _ g 1 u1) hk).kept (set_grown _ g 2 u2) hk), h.2⟩
theorem rec_zero (w : World) : (w.alloc (.cells #[.int .i64 0, .int .i64 0, .slice none 0 0] 36)).cell? ⟨w.heap.size, 0, none⟩ = some (.int .i64 0) ∧ (w.alloc (.cells #[.int .i64 0, .int .i64 0, .slice none 0 0] 36)).cell? ⟨w.heap.size, 1, none⟩ = some (.int .i64 0) ∧ (w.alloc (.cells #[.int .i64 0, .int .i64 0, .slice none 0 0] 36)).cell? ⟨w.heap.size, 2, none⟩ = some (.slice none 0 0) ∧
    (w.alloc (.cells #[.int .i64 0, .int .i64 0, .slice none 0 0] 36)).frozen? ⟨w.heap.size, 0, none⟩ = false ∧ (w.alloc (.cells #[.int .i64 0, .int .i64 0, .slice none 0 0] 36)).frozen? ⟨w.heap.size, 1, none⟩ = false ∧ (w.alloc (.cells #[.int .i64 0, .int .i64 0, .slice none 0 0] 36)).frozen? ⟨w.heap.size, 2, none⟩ = false := by
  have k := Wb.new w 36 #[.int .i64 0, .int .i64 0, .slice none 0 0]
  exact ⟨(k.read 0).trans rfl, (k.read 1).trans rfl, (k.read 2).trans rfl, k.free 0, k.free 1, k.free 2⟩
theorem rvI_len (b : Bool) (V : List Int) : (rvI b V).length ≤ V.length := by unfold rvI; split <;> simp

set_option maxHeartbeats 8000000 in
theorem fnExactReplaceValues_any (x y z : Option Addr) (cap cap2 cap3 : Nat) (S : List (ByteArray × Int)) (a h : Int) (L V : List Int) (w : World) (hlen : S.length ≤ 9223372036854775807) (hn : Hid (∀ q ∈ S, q.1.size ≤ 9223372036854775807 ∧ IsI64 q.2)) (hS : Hid (Rd w x (vC S)))
    (hlL : L.length ≤ 9223372036854775807) (hnL : Hid (∀ n ∈ L, IsI64 n)) (hL : Hid (Rd w y (iC L))) (hnV : Hid (∀ n ∈ V, IsI64 n)) (hV : Hid (Rd w z (iC V))) :
    Calls Try.prog 10 #[.slice x S.length cap, .agg #[.int .i64 a, .int .i64 h, .slice y L.length cap2], .slice z V.length cap3] w fun e w' => e = .returned (.bool true) ∧ Below w.heap.size w w' := by
  by_cases hbig : (1048576 : Int) < (V.length : Int)
  · go_enter Try.func10, Try.ntmps10
    go_wp2
    go_ret
    exact ⟨rfl, (by repeat (first | exact Below.refl _ _ | assumption | refine Below.drew ?_ | refine below_drewN ?_ _ | refine Below.alloc' ?_ _ | (refine Below.setCell ?_ (by first | omega | (simp; done) | (simp; omega) | exact Below.size (by assumption) | exact Nat.le_trans (Below.size (by assumption)) (by simp)) _) | (refine Below.via' ?_ (by assumption)) | (refine Below.alloc ?_ (by first | omega | (simp; done) | (simp; omega) | exact Below.size (by assumption) | exact Nat.le_trans (Below.size (by assumption)) (by simp)) _) | (refine Below.via ?_ (by assumption) (by first | omega | (simp; done) | (simp; omega) | exact Below.size (by assumption) | exact Nat.le_trans (Below.size (by assumption)) (by simp)))))⟩
  go_enter Try.func10, Try.ntmps10
  go_wp2_with fail
  refine (szVariableS_any _ _ S _ _ (by omega) (by omega) hlen (fun p hp => (hn.out p hp).1) (hS.out.below (by exact (by repeat (first | exact Below.refl _ _ | assumption | refine Below.drew ?_ | refine below_drewN ?_ _ | refine Below.alloc' ?_ _ | (refine Below.setCell ?_ (by first | omega | (simp; done) | (simp; omega) | exact Below.size (by assumption) | exact Nat.le_trans (Below.size (by assumption)) (by simp)) _) | (refine Below.via' ?_ (by assumption)) | (refine Below.alloc ?_ (by first | omega | (simp; done) | (simp; omega) | exact Below.size (by assumption) | exact Nat.le_trans (Below.size (by assumption)) (by simp)) _) | (refine Below.via ?_ (by assumption) (by first | omega | (simp; done) | (simp; omega) | exact Below.size (by assumption) | exact Nat.le_trans (Below.size (by assumption)) (by simp)))))))).mono ?_
  rintro e w1 ⟨r, rfl, hr1, hr2, hr3, hb1⟩
  by_cases hr : r < 0
  · go_wp2
    go_ret
    exact ⟨rfl, (by repeat (first | exact Below.refl _ _ | assumption | refine Below.drew ?_ | refine below_drewN ?_ _ | refine Below.alloc' ?_ _ | (refine Below.setCell ?_ (by first | omega | (simp; done) | (simp; omega) | exact Below.size (by assumption) | exact Nat.le_trans (Below.size (by assumption)) (by simp)) _) | (refine Below.via' ?_ (by assumption)) | (refine Below.alloc ?_ (by first | omega | (simp; done) | (simp; omega) | exact Below.size (by assumption) | exact Nat.le_trans (Below.size (by assumption)) (by simp)) _) | (refine Below.via ?_ (by assumption) (by first | omega | (simp; done) | (simp; omega) | exact Below.size (by assumption) | exact Nat.le_trans (Below.size (by assumption)) (by simp)))))⟩
  obtain ⟨hm, hsz⟩ := hr3 (by omega)
  have hm : S.length ≤ 1048576 := by omega
  clear hr3 hsz
  have hk1 := Lib.hid ((RB.new w a h y L.length cap2 49).below hb1)
  obtain ⟨ka1, kb1, kc1, kd1⟩ := hk1.out
  go_wp2_with fail
  refine (szRecord_any _ _ _ _ _ _ _ (by omega) (by omega) hlL).mono ?_
  rintro e w0 ⟨rfl, hb0⟩
  by_cases hrg : szZ r (L).length < 0
  · go_wp2
    go_ret
    exact ⟨rfl, (by repeat (first | exact Below.refl _ _ | assumption | refine Below.drew ?_ | refine below_drewN ?_ _ | refine Below.alloc' ?_ _ | (refine Below.setCell ?_ (by first | omega | (simp; done) | (simp; omega) | exact Below.size (by assumption) | exact Nat.le_trans (Below.size (by assumption)) (by simp)) _) | (refine Below.via' ?_ (by assumption)) | (refine Below.alloc ?_ (by first | omega | (simp; done) | (simp; omega) | exact Below.size (by assumption) | exact Nat.le_trans (Below.size (by assumption)) (by simp)) _) | (refine Below.via ?_ (by assumption) (by first | omega | (simp; done) | (simp; omega) | exact Below.size (by assumption) | exact Nat.le_trans (Below.size (by assumption)) (by simp)))))⟩
  have hmL : (L).length ≤ 1048576 := by
    unfold szZ at hrg
    split at hrg <;> omega
  have hk0 := Lib.hid (hk1.out.below hb0)
  obtain ⟨ka0, kb0, kc0, kd0⟩ := hk0.out
  have B0 := Lib.hid (show Below w.heap.size w w0 from (by repeat (first | exact Below.refl _ _ | assumption | refine Below.drew ?_ | refine below_drewN ?_ _ | refine Below.alloc' ?_ _ | (refine Below.setCell ?_ (by first | omega | (simp; done) | (simp; omega) | exact Below.size (by assumption) | exact Nat.le_trans (Below.size (by assumption)) (by simp)) _) | (refine Below.via' ?_ (by assumption)) | (refine Below.alloc ?_ (by first | omega | (simp; done) | (simp; omega) | exact Below.size (by assumption) | exact Nat.le_trans (Below.size (by assumption)) (by simp)) _) | (refine Below.via ?_ (by assumption) (by first | omega | (simp; done) | (simp; omega) | exact Below.size (by assumption) | exact Nat.le_trans (Below.size (by assumption)) (by simp))))))
  have hsz0 := B0.out.size
  clear ka1 kb1 kc1 kd1 hk1 hb1 hb0
  have hB0 := B0.out
  have hVl := rvI_len (rvB S a h L V) V
  go_upto_region 10 with fail
  go_cut [8, 9] (fun s8 s9 wx => RvAt s8 (rvB S a h L V) a h V w0.heap.size wx ∧ s9 = .bool (rvB S a h L V) ∧ Below w0.heap.size w0 wx)
  case first =>
    go_region_held3 (fun w' => Below w0.heap.size w0 w' ∧ (∀ b o, b < w0.heap.size → w'.cell? ⟨b, o, none⟩ = w0.cell? ⟨b, o, none⟩)) (first | exact keep_of (Below.refl _ _) | ((try go_split_ands); exact keep_of (by repeat (first | exact Below.refl _ _ | assumption | refine Below.drew ?_ | refine below_drewN ?_ _ | refine Below.alloc' ?_ _ | (refine Below.setCell ?_ (by first | omega | (simp; done) | (simp; omega) | exact Below.size (by assumption) | exact Nat.le_trans (Below.size (by assumption)) (by simp)) _) | (refine Below.via' ?_ (by assumption)) | (refine Below.alloc ?_ (by first | omega | (simp; done) | (simp; omega) | exact Below.size (by assumption) | exact Nat.le_trans (Below.size (by assumption)) (by simp)) _) | (refine Below.via ?_ (by assumption) (by first | omega | (simp; done) | (simp; omega) | exact Below.size (by assumption) | exact Nat.le_trans (Below.size (by assumption)) (by simp))))))) (first
      | (go_at_call 29; refine (toVariableS_any _ _ S _ hm (hS.out.below (by exact (by repeat (first | exact Below.refl _ _ | assumption | refine Below.drew ?_ | refine below_drewN ?_ _ | refine Below.alloc' ?_ _ | (refine Below.setCell ?_ (by first | omega | (simp; done) | (simp; omega) | exact Below.size (by assumption) | exact Nat.le_trans (Below.size (by assumption)) (by simp)) _) | (refine Below.via' ?_ (by assumption)) | (refine Below.alloc ?_ (by first | omega | (simp; done) | (simp; omega) | exact Below.size (by assumption) | exact Nat.le_trans (Below.size (by assumption)) (by simp)) _) | (refine Below.via ?_ (by assumption) (by first | omega | (simp; done) | (simp; omega) | exact Below.size (by assumption) | exact Nat.le_trans (Below.size (by assumption)) (by simp)))))))).mono ?_; rintro e w2 ⟨rfl, ho2, hb2⟩; (try simp only [drew_size, World.size_alloc] at ho2); (have hj2 := Lib.hid (show SIn w2 _ S.length S from ⟨hm, Nat.le_refl _, hn.out, Rd.of_own ho2⟩)); obtain ⟨hcl2, hfr2⟩ := bcell hb2; (have hz2 := hb2.size); (try simp at hz2); (try (have l2a : w0.heap.size < w2.heap.size := by omega)))
      | (go_at_call 30; refine (toRecord_any _ _ _ _ L _ hmL (hL.out.below (by exact (by repeat (first | exact Below.refl _ _ | assumption | refine Below.drew ?_ | refine below_drewN ?_ _ | refine Below.alloc' ?_ _ | (refine Below.setCell ?_ (by first | omega | (simp; done) | (simp; omega) | exact Below.size (by assumption) | exact Nat.le_trans (Below.size (by assumption)) (by simp)) _) | (refine Below.via' ?_ (by assumption)) | (refine Below.alloc ?_ (by first | omega | (simp; done) | (simp; omega) | exact Below.size (by assumption) | exact Nat.le_trans (Below.size (by assumption)) (by simp)) _) | (refine Below.via ?_ (by assumption) (by first | omega | (simp; done) | (simp; omega) | exact Below.size (by assumption) | exact Nat.le_trans (Below.size (by assumption)) (by simp)))))))).mono ?_; rintro e w3 ⟨g3, rfl, ho3, hb3⟩; (have hj3 := Lib.hid (IIn.of_owR ho3 hmL hnL.out)); obtain ⟨hcl3, hfr3⟩ := bcell hb3; (have hz3 := hb3.size); (try simp at hz3); (try (have l3a : w0.heap.size < w3.heap.size := by omega)); (try (have l3b : w2.heap.size < w3.heap.size := by omega)))
      | (go_at_call 52; refine (toIntS_any _ _ V _ (by omega) (hV.out.below (by exact (by repeat (first | exact Below.refl _ _ | assumption | refine Below.drew ?_ | refine below_drewN ?_ _ | refine Below.alloc' ?_ _ | (refine Below.setCell ?_ (by first | omega | (simp; done) | (simp; omega) | exact Below.size (by assumption) | exact Nat.le_trans (Below.size (by assumption)) (by simp)) _) | (refine Below.via' ?_ (by assumption)) | (refine Below.alloc ?_ (by first | omega | (simp; done) | (simp; omega) | exact Below.size (by assumption) | exact Nat.le_trans (Below.size (by assumption)) (by simp)) _) | (refine Below.via ?_ (by assumption) (by first | omega | (simp; done) | (simp; omega) | exact Below.size (by assumption) | exact Nat.le_trans (Below.size (by assumption)) (by simp)))))))).mono ?_; rintro e w4 ⟨rfl, ho4, hb4⟩; (try simp only [World.size_alloc] at ho4); (have hj4 := Lib.hid (show IIn w4 _ V from ⟨by omega, hnV.out, Rd.of_own ho4⟩)); obtain ⟨hcl4, hfr4⟩ := bcell hb4; (have hz4 := hb4.size); (try simp at hz4); (try (have l4a : w0.heap.size < w4.heap.size := by omega)); (try (have l4b : w2.heap.size < w4.heap.size := by omega)); (try (have l4c : w3.heap.size < w4.heap.size := by omega)))
      | (go_at_call 21; refine (sRV_x _ _ _ _ _ _ S a h L V _ (hj2.out.below (by exact (by repeat (first | exact Below.refl _ _ | assumption | refine Below.drew ?_ | refine below_drewN ?_ _ | refine Below.alloc' ?_ _ | (refine Below.setCell ?_ (by first | omega | (simp; done) | (simp; omega) | exact Below.size (by assumption) | exact Nat.le_trans (Below.size (by assumption)) (by simp)) _) | (refine Below.via' ?_ (by assumption)) | (refine Below.alloc ?_ (by first | omega | (simp; done) | (simp; omega) | exact Below.size (by assumption) | exact Nat.le_trans (Below.size (by assumption)) (by simp)) _) | (refine Below.via ?_ (by assumption) (by first | omega | (simp; done) | (simp; omega) | exact Below.size (by assumption) | exact Nat.le_trans (Below.size (by assumption)) (by simp))))))) (hj3.out.below (by exact (by repeat (first | exact Below.refl _ _ | assumption | refine Below.drew ?_ | refine below_drewN ?_ _ | refine Below.alloc' ?_ _ | (refine Below.setCell ?_ (by first | omega | (simp; done) | (simp; omega) | exact Below.size (by assumption) | exact Nat.le_trans (Below.size (by assumption)) (by simp)) _) | (refine Below.via' ?_ (by assumption)) | (refine Below.alloc ?_ (by first | omega | (simp; done) | (simp; omega) | exact Below.size (by assumption) | exact Nat.le_trans (Below.size (by assumption)) (by simp)) _) | (refine Below.via ?_ (by assumption) (by first | omega | (simp; done) | (simp; omega) | exact Below.size (by assumption) | exact Nat.le_trans (Below.size (by assumption)) (by simp))))))) (hj4.out.below (by exact (by repeat (first | exact Below.refl _ _ | assumption | refine Below.drew ?_ | refine below_drewN ?_ _ | refine Below.alloc' ?_ _ | (refine Below.setCell ?_ (by first | omega | (simp; done) | (simp; omega) | exact Below.size (by assumption) | exact Nat.le_trans (Below.size (by assumption)) (by simp)) _) | (refine Below.via' ?_ (by assumption)) | (refine Below.alloc ?_ (by first | omega | (simp; done) | (simp; omega) | exact Below.size (by assumption) | exact Nat.le_trans (Below.size (by assumption)) (by simp)) _) | (refine Below.via ?_ (by assumption) (by first | omega | (simp; done) | (simp; omega) | exact Below.size (by assumption) | exact Nat.le_trans (Below.size (by assumption)) (by simp))))))) (Nat.le_refl _) (by intro h; cases h)).mono ?_; rintro e w5 ⟨x5, c5, rfl, ho5, hb5⟩; obtain ⟨hcl5, hfr5⟩ := bcell hb5; (have hz5 := hb5.size); (try simp at hz5); (try (have l5a : w0.heap.size < w5.heap.size := by omega)); (try (have l5b : w2.heap.size < w5.heap.size := by omega)); (try (have l5c : w3.heap.size < w5.heap.size := by omega)); (try (have l5d : w4.heap.size < w5.heap.size := by omega)); obtain ⟨d0, d1, d2, e0, e1, e2⟩ := rec_zero w5; (have ho5h := Lib.hid ho5); clear ho5))
    all_goals
      go_wp2_with fail
      go_meet
      refine ⟨⟨_, x5, c5, rfl, ⟨by go_simp, by go_simp, by go_simp, by simp; try omega⟩, by omega, ?_, ?_⟩, rfl, (by repeat (first | exact Below.refl _ _ | assumption | refine Below.drew ?_ | refine below_drewN ?_ _ | refine Below.alloc' ?_ _ | (refine Below.setCell ?_ (by first | omega | (simp; done) | (simp; omega) | exact Below.size (by assumption) | exact Nat.le_trans (Below.size (by assumption)) (by simp)) _) | (refine Below.via' ?_ (by assumption)) | (refine Below.alloc ?_ (by first | omega | (simp; done) | (simp; omega) | exact Below.size (by assumption) | exact Nat.le_trans (Below.size (by assumption)) (by simp)) _) | (refine Below.via ?_ (by assumption) (by first | omega | (simp; done) | (simp; omega) | exact Below.size (by assumption) | exact Nat.le_trans (Below.size (by assumption)) (by simp)))))⟩
      · first
          | exact (own_box (ho5h.out.more (by first | omega | (simp; omega)) (Nat.le_refl _)) (fun k hk => by have := ho5h.out.2 k hk; (try simp at this); omega)).more (Nat.le_refl _) (by simp)
          | exact ((ho5h.out.more (by first | omega | (simp; omega)) (Nat.le_refl _)).below ((Below.refl _ _).alloc (Nat.le_refl _) _)).more (Nat.le_refl _) (by simp)
      · intro k hk
        have := ho5h.out.2 k hk
        (try simp at this)
        omega
  obtain ⟨⟨gw, xw, cw, rfl, hw5, hgw, how, hnw⟩, rfl, hb5⟩ := hcut
  obtain ⟨w5, rfl⟩ : ∃ u : World, u = wc := ⟨_, rfl⟩
  have hz52 := hb5.size
  have hk5 := Lib.hid (hk0.out.below hb5)
  obtain ⟨ka5, kb5, kc5, kd5⟩ := hk5.out
  have B5 : Below w.heap.size w w5 := Below.via' hB0 hb5
  have gwl := hw5.2.2.2
  have RW5 := Lib.hid hw5
  have W5 := Lib.hid how
  clear ka0 kb0 kc0 kd0 hk0 hb5 hB0 B0 hw5 how hnw
  go_wp2_with fail
  refine (toVariableS_any _ _ S _ hm (hS.out.below (by exact (by repeat (first | exact Below.refl _ _ | assumption | refine Below.drew ?_ | refine below_drewN ?_ _ | refine Below.alloc' ?_ _ | (refine Below.setCell ?_ (by first | omega | (simp; done) | (simp; omega) | exact Below.size (by assumption) | exact Nat.le_trans (Below.size (by assumption)) (by simp)) _) | (refine Below.via' ?_ (by assumption)) | (refine Below.alloc ?_ (by first | omega | (simp; done) | (simp; omega) | exact Below.size (by assumption) | exact Nat.le_trans (Below.size (by assumption)) (by simp)) _) | (refine Below.via ?_ (by assumption) (by first | omega | (simp; done) | (simp; omega) | exact Below.size (by assumption) | exact Nat.le_trans (Below.size (by assumption)) (by simp)))))))).mono ?_
  rintro e w6 ⟨rfl, ho6, hb6⟩
  have hi6 : Hid (SIn w6 (some ⟨w5.heap.size, 0, none⟩) S.length S) := ⟨hm, Nat.le_refl _, hn.out, Rd.of_own ho6⟩
  have hz6 := hb6.size; (try simp at hz6); (try (have hly6 := Nat.lt_of_succ_le hz6)); (try (have hlx6 := Nat.lt_of_succ_lt hly6)); (try (have hlw6 := Nat.lt_of_succ_lt hlx6)); (try (have hle6 := Nat.le_of_lt hly6))
  have B6 : Below w.heap.size w w6 := (by repeat (first | exact Below.refl _ _ | assumption | refine Below.drew ?_ | refine below_drewN ?_ _ | refine Below.alloc' ?_ _ | (refine Below.setCell ?_ (by first | omega | (simp; done) | (simp; omega) | exact Below.size (by assumption) | exact Nat.le_trans (Below.size (by assumption)) (by simp)) _) | (refine Below.via' ?_ (by assumption)) | (refine Below.alloc ?_ (by first | omega | (simp; done) | (simp; omega) | exact Below.size (by assumption) | exact Nat.le_trans (Below.size (by assumption)) (by simp)) _) | (refine Below.via ?_ (by assumption) (by first | omega | (simp; done) | (simp; omega) | exact Below.size (by assumption) | exact Nat.le_trans (Below.size (by assumption)) (by simp)))))
  have hk6 := Lib.hid (hk5.out.below hb6)
  obtain ⟨ka6, kb6, kc6, kd6⟩ := hk6.out
  have RW6 := Lib.hid (RW5.out.below hb6)
  have W6 := Lib.hid (W5.out.below hb6)
  have X6 := Lib.hid (OwR.of ho6)
  have hz62 := hb6.size
  clear hk5 ka5 kb5 kc5 kd5 RW5 W5 hb6 ho6 B5
  go_wp2_with fail
  refine (toRecord_any _ _ _ _ L _ hmL (hL.out.below (by exact (by repeat (first | exact Below.refl _ _ | assumption | refine Below.drew ?_ | refine below_drewN ?_ _ | refine Below.alloc' ?_ _ | (refine Below.setCell ?_ (by first | omega | (simp; done) | (simp; omega) | exact Below.size (by assumption) | exact Nat.le_trans (Below.size (by assumption)) (by simp)) _) | (refine Below.via' ?_ (by assumption)) | (refine Below.alloc ?_ (by first | omega | (simp; done) | (simp; omega) | exact Below.size (by assumption) | exact Nat.le_trans (Below.size (by assumption)) (by simp)) _) | (refine Below.via ?_ (by assumption) (by first | omega | (simp; done) | (simp; omega) | exact Below.size (by assumption) | exact Nat.le_trans (Below.size (by assumption)) (by simp)))))))).mono ?_
  rintro e w7 ⟨g7, rfl, ho7, hb7⟩
  have hi7 : Hid (IIn w7 (some ⟨g7, 0, none⟩) L) := Lib.hid (IIn.of_owR ho7 hmL hnL.out)
  have hz7 := hb7.size; (try simp at hz7); (try (have hly7 := Nat.lt_of_succ_le hz7)); (try (have hlx7 := Nat.lt_of_succ_lt hly7)); (try (have hlw7 := Nat.lt_of_succ_lt hlx7)); (try (have hle7 := Nat.le_of_lt hly7))
  have hz72 := hb7.size
  have B7 : Below w.heap.size w w7 := (by repeat (first | exact Below.refl _ _ | assumption | refine Below.drew ?_ | refine below_drewN ?_ _ | refine Below.alloc' ?_ _ | (refine Below.setCell ?_ (by first | omega | (simp; done) | (simp; omega) | exact Below.size (by assumption) | exact Nat.le_trans (Below.size (by assumption)) (by simp)) _) | (refine Below.via' ?_ (by assumption)) | (refine Below.alloc ?_ (by first | omega | (simp; done) | (simp; omega) | exact Below.size (by assumption) | exact Nat.le_trans (Below.size (by assumption)) (by simp)) _) | (refine Below.via ?_ (by assumption) (by first | omega | (simp; done) | (simp; omega) | exact Below.size (by assumption) | exact Nat.le_trans (Below.size (by assumption)) (by simp)))))
  have hk7 := Lib.hid (hk6.out.below hb7)
  have RW7 := Lib.hid (RW6.out.below hb7)
  have W7 := Lib.hid (W6.out.below hb7)
  have X7 := Lib.hid (X6.out.below hb7)
  have Y7 := Lib.hid ho7
  have hi67 := Lib.hid (hi6.out.below hb7)
  have hx7 := Lib.hid (RB.new w7 a h (some ⟨g7, 0, none⟩) L.length L.length 36)
  clear hk6 ka6 kb6 kc6 kd6 RW6 W6 X6 hb7 ho7 B6 hi6
  go_wp2_with fail
  refine (toIntS_any _ _ V _ (by omega) (hV.out.below (by exact (by repeat (first | exact Below.refl _ _ | assumption | refine Below.drew ?_ | refine below_drewN ?_ _ | refine Below.alloc' ?_ _ | (refine Below.setCell ?_ (by first | omega | (simp; done) | (simp; omega) | exact Below.size (by assumption) | exact Nat.le_trans (Below.size (by assumption)) (by simp)) _) | (refine Below.via' ?_ (by assumption)) | (refine Below.alloc ?_ (by first | omega | (simp; done) | (simp; omega) | exact Below.size (by assumption) | exact Nat.le_trans (Below.size (by assumption)) (by simp)) _) | (refine Below.via ?_ (by assumption) (by first | omega | (simp; done) | (simp; omega) | exact Below.size (by assumption) | exact Nat.le_trans (Below.size (by assumption)) (by simp)))))))).mono ?_
  rintro e w8 ⟨rfl, ho8, hb8⟩
  have hbx8 : Below w7.heap.size w7 w8 := (by repeat (first | exact Below.refl _ _ | assumption | refine Below.drew ?_ | refine below_drewN ?_ _ | refine Below.alloc' ?_ _ | (refine Below.setCell ?_ (by first | omega | (simp; done) | (simp; omega) | exact Below.size (by assumption) | exact Nat.le_trans (Below.size (by assumption)) (by simp)) _) | (refine Below.via' ?_ (by assumption)) | (refine Below.alloc ?_ (by first | omega | (simp; done) | (simp; omega) | exact Below.size (by assumption) | exact Nat.le_trans (Below.size (by assumption)) (by simp)) _) | (refine Below.via ?_ (by assumption) (by first | omega | (simp; done) | (simp; omega) | exact Below.size (by assumption) | exact Nat.le_trans (Below.size (by assumption)) (by simp)))))
  have B8 : Below w.heap.size w w8 := (by repeat (first | exact Below.refl _ _ | assumption | refine Below.drew ?_ | refine below_drewN ?_ _ | refine Below.alloc' ?_ _ | (refine Below.setCell ?_ (by first | omega | (simp; done) | (simp; omega) | exact Below.size (by assumption) | exact Nat.le_trans (Below.size (by assumption)) (by simp)) _) | (refine Below.via' ?_ (by assumption)) | (refine Below.alloc ?_ (by first | omega | (simp; done) | (simp; omega) | exact Below.size (by assumption) | exact Nat.le_trans (Below.size (by assumption)) (by simp)) _) | (refine Below.via ?_ (by assumption) (by first | omega | (simp; done) | (simp; omega) | exact Below.size (by assumption) | exact Nat.le_trans (Below.size (by assumption)) (by simp)))))
  have ho8 : w8.ownsRow (w7.heap.size + 1) 3 1 (.slice (some ⟨w7.heap.size + 1, 0, none⟩) V.length V.length) V.length (iC V) := by simpa using ho8
  have hz82 : w7.heap.size + 1 ≤ w8.heap.size := by have := hb8.size; simpa using this
  have hi8 := Lib.hid (show IIn w8 (some ⟨w7.heap.size + 1, 0, none⟩) V from ⟨by omega, hnV.out, Rd.of_own ho8⟩)
  have Z8 := Lib.hid (OwR.of ho8)
  have hk8 := Lib.hid (hk7.out.below hbx8)
  obtain ⟨ka8, kb8, kc8, kd8⟩ := hk8.out
  have hx8 := Lib.hid (hx7.out.below hb8)
  obtain ⟨xa8, xb8, xc8, xd8⟩ := hx8.out
  have RW8 := Lib.hid (RW7.out.below hbx8)
  have W8 := Lib.hid (W7.out.below hbx8)
  have X8 := Lib.hid (X7.out.below hbx8)
  have Y8 := Lib.hid (Y7.out.below hbx8)
  have hi68 := Lib.hid (hi67.out.below hbx8)
  have hi78 := Lib.hid (hi7.out.below hbx8)
  clear hk7 hx7 RW7 W7 X7 Y7 hb8 hbx8 ho8 B7 hi67 hi7
  go_wp2_with fail
  refine (iRV_x _ _ _ _ _ _ S a h L V _ hi68.out hi78.out hi8.out).mono ?_
  rintro e w9 ⟨x9, c9, rfl, ho9, hb9⟩
  have B9 : Below w.heap.size w w9 := (by repeat (first | exact Below.refl _ _ | assumption | refine Below.drew ?_ | refine below_drewN ?_ _ | refine Below.alloc' ?_ _ | (refine Below.setCell ?_ (by first | omega | (simp; done) | (simp; omega) | exact Below.size (by assumption) | exact Nat.le_trans (Below.size (by assumption)) (by simp)) _) | (refine Below.via' ?_ (by assumption)) | (refine Below.alloc ?_ (by first | omega | (simp; done) | (simp; omega) | exact Below.size (by assumption) | exact Nat.le_trans (Below.size (by assumption)) (by simp)) _) | (refine Below.via ?_ (by assumption) (by first | omega | (simp; done) | (simp; omega) | exact Below.size (by assumption) | exact Nat.le_trans (Below.size (by assumption)) (by simp)))))
  have hz92 := hb9.size
  have G9 := Lib.hid ho9
  have hk9 := Lib.hid (hk8.out.below hb9)
  obtain ⟨ka9, kb9, kc9, kd9⟩ := hk9.out
  have hx9 := Lib.hid (hx8.out.below hb9)
  obtain ⟨xa9, xb9, xc9, xd9⟩ := hx9.out
  have RW9 := Lib.hid (RW8.out.below hb9)
  obtain ⟨wa9, wb9, wc9, wd9⟩ := RW9.out
  have W9 := Lib.hid (W8.out.below hb9)
  have X9 := Lib.hid (X8.out.below hb9)
  have Y9 := Lib.hid (Y8.out.below hb9)
  have Z9 := Lib.hid (Z8.out.below hb9)
  have RG9 := Lib.hid (RB.new w9 (rvZ (rvB S a h L V) a) (rvZ (rvB S a h L V) h) x9 (rvI (rvB S a h L V) V).length c9 36)
  clear ka8 kb8 kc8 kd8 xa8 xb8 xc8 xd8 hk8 hx8 RW8 W8 X8 Y8 Z8 hb9 ho9 B8 hi68 hi78 hi8
  go_wp2_with fail
  refine (eqRecord_any _ _ _ _ _ _ (rvI (rvB S a h L V) V) _ (by omega) (G9.out.below (by exact (by repeat (first | exact Below.refl _ _ | assumption | refine Below.drew ?_ | refine below_drewN ?_ _ | refine Below.alloc' ?_ _ | (refine Below.setCell ?_ (by first | omega | (simp; done) | (simp; omega) | exact Below.size (by assumption) | exact Nat.le_trans (Below.size (by assumption)) (by simp)) _) | (refine Below.via' ?_ (by assumption)) | (refine Below.alloc ?_ (by first | omega | (simp; done) | (simp; omega) | exact Below.size (by assumption) | exact Nat.le_trans (Below.size (by assumption)) (by simp)) _) | (refine Below.via ?_ (by assumption) (by first | omega | (simp; done) | (simp; omega) | exact Below.size (by assumption) | exact Nat.le_trans (Below.size (by assumption)) (by simp))))))).rd (W9.out.below (by exact (by repeat (first | exact Below.refl _ _ | assumption | refine Below.drew ?_ | refine below_drewN ?_ _ | refine Below.alloc' ?_ _ | (refine Below.setCell ?_ (by first | omega | (simp; done) | (simp; omega) | exact Below.size (by assumption) | exact Nat.le_trans (Below.size (by assumption)) (by simp)) _) | (refine Below.via' ?_ (by assumption)) | (refine Below.alloc ?_ (by first | omega | (simp; done) | (simp; omega) | exact Below.size (by assumption) | exact Nat.le_trans (Below.size (by assumption)) (by simp)) _) | (refine Below.via ?_ (by assumption) (by first | omega | (simp; done) | (simp; omega) | exact Below.size (by assumption) | exact Nat.le_trans (Below.size (by assumption)) (by simp))))))).rd).mono ?_
  rintro e w10 ⟨rfl, hb10⟩
  have hbx10 : Below w9.heap.size w9 w10 := (by repeat (first | exact Below.refl _ _ | assumption | refine Below.drew ?_ | refine below_drewN ?_ _ | refine Below.alloc' ?_ _ | (refine Below.setCell ?_ (by first | omega | (simp; done) | (simp; omega) | exact Below.size (by assumption) | exact Nat.le_trans (Below.size (by assumption)) (by simp)) _) | (refine Below.via' ?_ (by assumption)) | (refine Below.alloc ?_ (by first | omega | (simp; done) | (simp; omega) | exact Below.size (by assumption) | exact Nat.le_trans (Below.size (by assumption)) (by simp)) _) | (refine Below.via ?_ (by assumption) (by first | omega | (simp; done) | (simp; omega) | exact Below.size (by assumption) | exact Nat.le_trans (Below.size (by assumption)) (by simp)))))
  have B10 : Below w.heap.size w w10 := (by repeat (first | exact Below.refl _ _ | assumption | refine Below.drew ?_ | refine below_drewN ?_ _ | refine Below.alloc' ?_ _ | (refine Below.setCell ?_ (by first | omega | (simp; done) | (simp; omega) | exact Below.size (by assumption) | exact Nat.le_trans (Below.size (by assumption)) (by simp)) _) | (refine Below.via' ?_ (by assumption)) | (refine Below.alloc ?_ (by first | omega | (simp; done) | (simp; omega) | exact Below.size (by assumption) | exact Nat.le_trans (Below.size (by assumption)) (by simp)) _) | (refine Below.via ?_ (by assumption) (by first | omega | (simp; done) | (simp; omega) | exact Below.size (by assumption) | exact Nat.le_trans (Below.size (by assumption)) (by simp)))))
  have hz102 : w9.heap.size + 1 ≤ w10.heap.size := by have := hb10.size; simpa using this
  have RG10 := Lib.hid (RG9.out.below hb10)
  obtain ⟨ga10, gb10, gc10, gd10⟩ := RG10.out
  have hk10 := Lib.hid (hk9.out.below hbx10)
  obtain ⟨ka10, kb10, kc10, kd10⟩ := hk10.out
  have hx10 := Lib.hid (hx9.out.below hbx10)
  obtain ⟨xa10, xb10, xc10, xd10⟩ := hx10.out
  have RW10 := Lib.hid (RW9.out.below hbx10)
  obtain ⟨wa10, wb10, wc10, wd10⟩ := RW10.out
  have W10 := Lib.hid (W9.out.below hbx10)
  have X10 := Lib.hid (X9.out.below hbx10)
  have Y10 := Lib.hid (Y9.out.below hbx10)
  have Z10 := Lib.hid (Z9.out.below hbx10)
  have G10 := Lib.hid (G9.out.below hbx10)
  clear hk9 ka9 kb9 kc9 kd9 hx9 xa9 xb9 xc9 xd9 RW9 wa9 wb9 wc9 wd9 W9 X9 Y9 Z9 G9 RG9 hb10 hbx10 B9
  go_wp2_with fail
  refine (toVariableS_any _ _ S _ hm (hS.out.below (by exact (by repeat (first | exact Below.refl _ _ | assumption | refine Below.drew ?_ | refine below_drewN ?_ _ | refine Below.alloc' ?_ _ | (refine Below.setCell ?_ (by first | omega | (simp; done) | (simp; omega) | exact Below.size (by assumption) | exact Nat.le_trans (Below.size (by assumption)) (by simp)) _) | (refine Below.via' ?_ (by assumption)) | (refine Below.alloc ?_ (by first | omega | (simp; done) | (simp; omega) | exact Below.size (by assumption) | exact Nat.le_trans (Below.size (by assumption)) (by simp)) _) | (refine Below.via ?_ (by assumption) (by first | omega | (simp; done) | (simp; omega) | exact Below.size (by assumption) | exact Nat.le_trans (Below.size (by assumption)) (by simp)))))))).mono ?_
  rintro e w11 ⟨rfl, ho11, hb11⟩
  have hi11 : Hid (SIn w11 (some ⟨w10.heap.size, 0, none⟩) S.length S) := ⟨hm, Nat.le_refl _, hn.out, Rd.of_own ho11⟩
  have hz11 := hb11.size; (try simp at hz11); (try (have hly11 := Nat.lt_of_succ_le hz11)); (try (have hlx11 := Nat.lt_of_succ_lt hly11)); (try (have hlw11 := Nat.lt_of_succ_lt hlx11)); (try (have hle11 := Nat.le_of_lt hly11))
  have hr11 := Lib.hid (Rd.of_own ho11)
  have B11 : Below w.heap.size w w11 := (by repeat (first | exact Below.refl _ _ | assumption | refine Below.drew ?_ | refine below_drewN ?_ _ | refine Below.alloc' ?_ _ | (refine Below.setCell ?_ (by first | omega | (simp; done) | (simp; omega) | exact Below.size (by assumption) | exact Nat.le_trans (Below.size (by assumption)) (by simp)) _) | (refine Below.via' ?_ (by assumption)) | (refine Below.alloc ?_ (by first | omega | (simp; done) | (simp; omega) | exact Below.size (by assumption) | exact Nat.le_trans (Below.size (by assumption)) (by simp)) _) | (refine Below.via ?_ (by assumption) (by first | omega | (simp; done) | (simp; omega) | exact Below.size (by assumption) | exact Nat.le_trans (Below.size (by assumption)) (by simp)))))
  have hz112 := hb11.size
  have hk11 := Lib.hid (hk10.out.below hb11)
  obtain ⟨ka11, kb11, kc11, kd11⟩ := hk11.out
  have hx11 := Lib.hid (hx10.out.below hb11)
  obtain ⟨xa11, xb11, xc11, xd11⟩ := hx11.out
  have RW11 := Lib.hid (RW10.out.below hb11)
  obtain ⟨wa11, wb11, wc11, wd11⟩ := RW11.out
  have W11 := Lib.hid (W10.out.below hb11)
  have X11 := Lib.hid (X10.out.below hb11)
  have Y11 := Lib.hid (Y10.out.below hb11)
  have Z11 := Lib.hid (Z10.out.below hb11)
  have G11 := Lib.hid (G10.out.below hb11)
  have RG11 := Lib.hid (RG10.out.below hb11)
  obtain ⟨ga11, gb11, gc11, gd11⟩ := RG11.out
  clear hk10 ka10 kb10 kc10 kd10 hx10 xa10 xb10 xc10 xd10 RW10 wa10 wb10 wc10 wd10 W10 X10 Y10 Z10 G10 RG10 ga10 gb10 gc10 gd10 hb11 B10 ho11 hi11
  go_wp2_with fail
  refine (eqVariableS_any _ _ _ _ S _ hlen X11.out.rd hr11.out).mono ?_
  rintro e w12 ⟨rfl, hb12⟩
  have B12 : Below w.heap.size w w12 := (by repeat (first | exact Below.refl _ _ | assumption | refine Below.drew ?_ | refine below_drewN ?_ _ | refine Below.alloc' ?_ _ | (refine Below.setCell ?_ (by first | omega | (simp; done) | (simp; omega) | exact Below.size (by assumption) | exact Nat.le_trans (Below.size (by assumption)) (by simp)) _) | (refine Below.via' ?_ (by assumption)) | (refine Below.alloc ?_ (by first | omega | (simp; done) | (simp; omega) | exact Below.size (by assumption) | exact Nat.le_trans (Below.size (by assumption)) (by simp)) _) | (refine Below.via ?_ (by assumption) (by first | omega | (simp; done) | (simp; omega) | exact Below.size (by assumption) | exact Nat.le_trans (Below.size (by assumption)) (by simp)))))
  have hz122 := hb12.size
  have hk12 := Lib.hid (hk11.out.below hb12)
  obtain ⟨ka12, kb12, kc12, kd12⟩ := hk12.out
  have hx12 := Lib.hid (hx11.out.below hb12)
  obtain ⟨xa12, xb12, xc12, xd12⟩ := hx12.out
  have RW12 := Lib.hid (RW11.out.below hb12)
  obtain ⟨wa12, wb12, wc12, wd12⟩ := RW12.out
  have W12 := Lib.hid (W11.out.below hb12)
  have X12 := Lib.hid (X11.out.below hb12)
  have Y12 := Lib.hid (Y11.out.below hb12)
  have Z12 := Lib.hid (Z11.out.below hb12)
  have G12 := Lib.hid (G11.out.below hb12)
  have RG12 := Lib.hid (RG11.out.below hb12)
  obtain ⟨ga12, gb12, gc12, gd12⟩ := RG12.out
  clear hk11 ka11 kb11 kc11 kd11 hx11 xa11 xb11 xc11 xd11 RW11 wa11 wb11 wc11 wd11 W11 X11 Y11 Z11 G11 RG11 ga11 gb11 gc11 gd11 hb12 B11 hr11
  go_wp2_with fail
  go_region_held3 (fun w' => Below (w12).heap.size (w12) w' ∧ (∀ b o, b < (w12).heap.size → w'.cell? ⟨b, o, none⟩ = (w12).cell? ⟨b, o, none⟩)) (first | exact keep_of (Below.refl _ _) | ((try go_split_ands); exact keep_of (by repeat (first | exact Below.refl _ _ | assumption | refine Below.drew ?_ | refine below_drewN ?_ _ | refine Below.alloc' ?_ _ | (refine Below.setCell ?_ (by first | omega | (simp; done) | (simp; omega) | exact Below.size (by assumption) | exact Nat.le_trans (Below.size (by assumption)) (by simp)) _) | (refine Below.via' ?_ (by assumption)) | (refine Below.alloc ?_ (by first | omega | (simp; done) | (simp; omega) | exact Below.size (by assumption) | exact Nat.le_trans (Below.size (by assumption)) (by simp)) _) | (refine Below.via ?_ (by assumption) (by first | omega | (simp; done) | (simp; omega) | exact Below.size (by assumption) | exact Nat.le_trans (Below.size (by assumption)) (by simp))))))) (first | (go_at_call 30; refine (toRecord_any _ _ _ _ L _ hmL (hL.out.below (by exact (by repeat (first | exact Below.refl _ _ | assumption | refine Below.drew ?_ | refine below_drewN ?_ _ | refine Below.alloc' ?_ _ | (refine Below.setCell ?_ (by first | omega | (simp; done) | (simp; omega) | exact Below.size (by assumption) | exact Nat.le_trans (Below.size (by assumption)) (by simp)) _) | (refine Below.via' ?_ (by assumption)) | (refine Below.alloc ?_ (by first | omega | (simp; done) | (simp; omega) | exact Below.size (by assumption) | exact Nat.le_trans (Below.size (by assumption)) (by simp)) _) | (refine Below.via ?_ (by assumption) (by first | omega | (simp; done) | (simp; omega) | exact Below.size (by assumption) | exact Nat.le_trans (Below.size (by assumption)) (by simp)))))))).mono ?_; rintro e w13 ⟨g13, rfl, ho13, hb13⟩; (have hi13 : Hid (IIn w13 (some ⟨g13, 0, none⟩) L) := Lib.hid (IIn.of_owR ho13 hmL hnL.out))) | (go_at_call 33; refine (eqRecord_any _ _ _ _ _ _ L _ hlL (Y12.out.below (by exact (by repeat (first | exact Below.refl _ _ | assumption | refine Below.drew ?_ | refine below_drewN ?_ _ | refine Below.alloc' ?_ _ | (refine Below.setCell ?_ (by first | omega | (simp; done) | (simp; omega) | exact Below.size (by assumption) | exact Nat.le_trans (Below.size (by assumption)) (by simp)) _) | (refine Below.via' ?_ (by assumption)) | (refine Below.alloc ?_ (by first | omega | (simp; done) | (simp; omega) | exact Below.size (by assumption) | exact Nat.le_trans (Below.size (by assumption)) (by simp)) _) | (refine Below.via ?_ (by assumption) (by first | omega | (simp; done) | (simp; omega) | exact Below.size (by assumption) | exact Nat.le_trans (Below.size (by assumption)) (by simp))))))).rd (hi13.out.2.2.below (by exact (by repeat (first | exact Below.refl _ _ | assumption | refine Below.drew ?_ | refine below_drewN ?_ _ | refine Below.alloc' ?_ _ | (refine Below.setCell ?_ (by first | omega | (simp; done) | (simp; omega) | exact Below.size (by assumption) | exact Nat.le_trans (Below.size (by assumption)) (by simp)) _) | (refine Below.via' ?_ (by assumption)) | (refine Below.alloc ?_ (by first | omega | (simp; done) | (simp; omega) | exact Below.size (by assumption) | exact Nat.le_trans (Below.size (by assumption)) (by simp)) _) | (refine Below.via ?_ (by assumption) (by first | omega | (simp; done) | (simp; omega) | exact Below.size (by assumption) | exact Nat.le_trans (Below.size (by assumption)) (by simp)))))))).mono ?_; rintro e w14 ⟨rfl, hb14⟩)); rename_i hH; obtain ⟨hb14, hcl14⟩ := hH; have hz14 := hb14.size; (try simp at hz14); (try (have hly14 := Nat.lt_of_succ_le hz14)); (try (have hlx14 := Nat.lt_of_succ_lt hly14)); (try (have hlw14 := Nat.lt_of_succ_lt hlx14)); (try (have hle14 := Nat.le_of_lt hly14)); (try (have hya14 : w.heap.size < w14.heap.size := by omega)); (try (have hyb14 : w.heap.size + 1 < w14.heap.size := by omega)); (try (have hyc14 : w.heap.size + 1 + 1 < w14.heap.size := by omega)); (try (have hyd14 : wa.heap.size < w14.heap.size := by omega))
  have B14 : Below w.heap.size w w14 := (by repeat (first | exact Below.refl _ _ | assumption | refine Below.drew ?_ | refine below_drewN ?_ _ | refine Below.alloc' ?_ _ | (refine Below.setCell ?_ (by first | omega | (simp; done) | (simp; omega) | exact Below.size (by assumption) | exact Nat.le_trans (Below.size (by assumption)) (by simp)) _) | (refine Below.via' ?_ (by assumption)) | (refine Below.alloc ?_ (by first | omega | (simp; done) | (simp; omega) | exact Below.size (by assumption) | exact Nat.le_trans (Below.size (by assumption)) (by simp)) _) | (refine Below.via ?_ (by assumption) (by first | omega | (simp; done) | (simp; omega) | exact Below.size (by assumption) | exact Nat.le_trans (Below.size (by assumption)) (by simp)))))
  have hz142 := hb14.size
  clear hcl14
  have hk14 := Lib.hid (hk12.out.below hb14)
  obtain ⟨ka14, kb14, kc14, kd14⟩ := hk14.out
  have hx14 := Lib.hid (hx12.out.below hb14)
  obtain ⟨xa14, xb14, xc14, xd14⟩ := hx14.out
  have RW14 := Lib.hid (RW12.out.below hb14)
  obtain ⟨wa14, wb14, wc14, wd14⟩ := RW14.out
  have W14 := Lib.hid (W12.out.below hb14)
  have X14 := Lib.hid (X12.out.below hb14)
  have Y14 := Lib.hid (Y12.out.below hb14)
  have Z14 := Lib.hid (Z12.out.below hb14)
  have G14 := Lib.hid (G12.out.below hb14)
  have RG14 := Lib.hid (RG12.out.below hb14)
  obtain ⟨ga14, gb14, gc14, gd14⟩ := RG14.out
  clear hk12 ka12 kb12 kc12 kd12 hx12 xa12 xb12 xc12 xd12 RW12 wa12 wb12 wc12 wd12 W12 X12 Y12 Z12 G12 RG12 ga12 gb12 gc12 gd12 hb14 B12
  go_wp2_with fail
  refine (toIntS_any _ _ V _ (by omega) (hV.out.below (by exact (by repeat (first | exact Below.refl _ _ | assumption | refine Below.drew ?_ | refine below_drewN ?_ _ | refine Below.alloc' ?_ _ | (refine Below.setCell ?_ (by first | omega | (simp; done) | (simp; omega) | exact Below.size (by assumption) | exact Nat.le_trans (Below.size (by assumption)) (by simp)) _) | (refine Below.via' ?_ (by assumption)) | (refine Below.alloc ?_ (by first | omega | (simp; done) | (simp; omega) | exact Below.size (by assumption) | exact Nat.le_trans (Below.size (by assumption)) (by simp)) _) | (refine Below.via ?_ (by assumption) (by first | omega | (simp; done) | (simp; omega) | exact Below.size (by assumption) | exact Nat.le_trans (Below.size (by assumption)) (by simp)))))))).mono ?_
  rintro e w15 ⟨rfl, ho15, hb15⟩
  have hi15 : Hid (IIn w15 (some ⟨w14.heap.size, 0, none⟩) V) := ⟨by omega, hnV.out, Rd.of_own ho15⟩
  have hz15 := hb15.size; (try simp at hz15); (try (have hly15 := Nat.lt_of_succ_le hz15)); (try (have hlx15 := Nat.lt_of_succ_lt hly15)); (try (have hlw15 := Nat.lt_of_succ_lt hlx15)); (try (have hle15 := Nat.le_of_lt hly15))
  have hr15 := Lib.hid (Rd.of_own ho15)
  have B15 : Below w.heap.size w w15 := (by repeat (first | exact Below.refl _ _ | assumption | refine Below.drew ?_ | refine below_drewN ?_ _ | refine Below.alloc' ?_ _ | (refine Below.setCell ?_ (by first | omega | (simp; done) | (simp; omega) | exact Below.size (by assumption) | exact Nat.le_trans (Below.size (by assumption)) (by simp)) _) | (refine Below.via' ?_ (by assumption)) | (refine Below.alloc ?_ (by first | omega | (simp; done) | (simp; omega) | exact Below.size (by assumption) | exact Nat.le_trans (Below.size (by assumption)) (by simp)) _) | (refine Below.via ?_ (by assumption) (by first | omega | (simp; done) | (simp; omega) | exact Below.size (by assumption) | exact Nat.le_trans (Below.size (by assumption)) (by simp)))))
  have hz152 := hb15.size
  have hk15 := Lib.hid (hk14.out.below hb15)
  obtain ⟨ka15, kb15, kc15, kd15⟩ := hk15.out
  have hx15 := Lib.hid (hx14.out.below hb15)
  obtain ⟨xa15, xb15, xc15, xd15⟩ := hx15.out
  have RW15 := Lib.hid (RW14.out.below hb15)
  obtain ⟨wa15, wb15, wc15, wd15⟩ := RW15.out
  have W15 := Lib.hid (W14.out.below hb15)
  have X15 := Lib.hid (X14.out.below hb15)
  have Y15 := Lib.hid (Y14.out.below hb15)
  have Z15 := Lib.hid (Z14.out.below hb15)
  have G15 := Lib.hid (G14.out.below hb15)
  have RG15 := Lib.hid (RG14.out.below hb15)
  obtain ⟨ga15, gb15, gc15, gd15⟩ := RG15.out
  clear hk14 ka14 kb14 kc14 kd14 hx14 xa14 xb14 xc14 xd14 RW14 wa14 wb14 wc14 wd14 W14 X14 Y14 Z14 G14 RG14 ga14 gb14 gc14 gd14 hb15 B14 ho15 hi15
  go_wp2_with fail
  refine (eqIntS_any _ _ _ _ V _ (by omega) Z15.out.rd hr15.out).mono ?_
  rintro e w16 ⟨rfl, hb16⟩
  have B16 : Below w.heap.size w w16 := (by repeat (first | exact Below.refl _ _ | assumption | refine Below.drew ?_ | refine below_drewN ?_ _ | refine Below.alloc' ?_ _ | (refine Below.setCell ?_ (by first | omega | (simp; done) | (simp; omega) | exact Below.size (by assumption) | exact Nat.le_trans (Below.size (by assumption)) (by simp)) _) | (refine Below.via' ?_ (by assumption)) | (refine Below.alloc ?_ (by first | omega | (simp; done) | (simp; omega) | exact Below.size (by assumption) | exact Nat.le_trans (Below.size (by assumption)) (by simp)) _) | (refine Below.via ?_ (by assumption) (by first | omega | (simp; done) | (simp; omega) | exact Below.size (by assumption) | exact Nat.le_trans (Below.size (by assumption)) (by simp)))))
  have hz162 := hb16.size
  have hk16 := Lib.hid (hk15.out.below hb16)
  obtain ⟨ka16, kb16, kc16, kd16⟩ := hk16.out
  have hx16 := Lib.hid (hx15.out.below hb16)
  obtain ⟨xa16, xb16, xc16, xd16⟩ := hx16.out
  have RW16 := Lib.hid (RW15.out.below hb16)
  obtain ⟨wa16, wb16, wc16, wd16⟩ := RW16.out
  have W16 := Lib.hid (W15.out.below hb16)
  have X16 := Lib.hid (X15.out.below hb16)
  have Y16 := Lib.hid (Y15.out.below hb16)
  have Z16 := Lib.hid (Z15.out.below hb16)
  have G16 := Lib.hid (G15.out.below hb16)
  have RG16 := Lib.hid (RG15.out.below hb16)
  obtain ⟨ga16, gb16, gc16, gd16⟩ := RG16.out
  clear hk15 ka15 kb15 kc15 kd15 hx15 xa15 xb15 xc15 xd15 RW15 wa15 wb15 wc15 wd15 W15 X15 Y15 Z15 G15 RG15 ga15 gb15 gc15 gd15 hb16 B15 hr15
  have X16' := X16.out
  clear X16
  go_wp2_with fail
  refine (markVariableS_any _ _ _ _ _ _ _ (by omega) (by omega) hm X16'.1).mono ?_
  rintro e w17 ⟨rfl, -, hg17⟩
  have f17 := Off.of_grown (lo := w5.heap.size) (hi := w6.heap.size) hg17 (fun k hk => X16'.2 k hk)
  have B17 := Below.off B16 f17 (by omega)
  have hz172 := f17.size
  have hk17 := Lib.hid (hk16.out.off f17 (by omega))
  obtain ⟨ka17, kb17, kc17, kd17⟩ := hk17.out
  have hx17 := Lib.hid (hx16.out.off f17 (by omega))
  obtain ⟨xa17, xb17, xc17, xd17⟩ := hx17.out
  have RW17 := Lib.hid (RW16.out.off f17 (by omega))
  obtain ⟨wa17, wb17, wc17, wd17⟩ := RW17.out
  have W17 := Lib.hid (W16.out.off f17 (by omega))
  have Y17 := Lib.hid (Y16.out.off f17 (by omega))
  have Z17 := Lib.hid (Z16.out.off f17 (by omega))
  have G17 := Lib.hid (G16.out.off f17 (by omega))
  have RG17 := Lib.hid (RG16.out.off f17 (by omega))
  obtain ⟨ga17, gb17, gc17, gd17⟩ := RG17.out
  clear hk16 ka16 kb16 kc16 kd16 hx16 xa16 xb16 xc16 xd16 RW16 wa16 wb16 wc16 wd16 W16 Y16 Z16 G16 RG16 ga16 gb16 gc16 gd16 X16' f17 hg17 B16
  have Y17' := Y17.out
  clear Y17
  go_wp2_with fail
  refine (markRecord_any _ _ _ _ _ _ _ _ _ (by omega) (by omega) hmL Y17'.1).mono ?_
  rintro e w18 ⟨rfl, -, hg18⟩
  have f18 := Off.of_grown (lo := w6.heap.size) (hi := w7.heap.size) hg18 (fun k hk => Y17'.2 k hk)
  have B18 := Below.off B17 f18 (by omega)
  have hz182 := f18.size
  have hk18 := Lib.hid (hk17.out.off f18 (by omega))
  obtain ⟨ka18, kb18, kc18, kd18⟩ := hk18.out
  have RW18 := Lib.hid (RW17.out.off f18 (by omega))
  obtain ⟨wa18, wb18, wc18, wd18⟩ := RW18.out
  have W18 := Lib.hid (W17.out.off f18 (by omega))
  have Z18 := Lib.hid (Z17.out.off f18 (by omega))
  have G18 := Lib.hid (G17.out.off f18 (by omega))
  have RG18 := Lib.hid (RG17.out.off f18 (by omega))
  obtain ⟨ga18, gb18, gc18, gd18⟩ := RG18.out
  clear hk17 ka17 kb17 kc17 kd17 RW17 wa17 wb17 wc17 wd17 W17 Z17 G17 RG17 ga17 gb17 gc17 gd17 Y17' f18 hg18 B17 hx17 xa17 xb17 xc17 xd17
  have Z18' := Z18.out
  clear Z18
  go_wp2_with fail
  refine (markIntS_any _ _ _ _ _ _ _ (by omega) (by omega) (by omega) Z18'.1).mono ?_
  rintro e w19 ⟨rfl, -, hg19⟩
  have f19 := Off.of_grown (lo := w7.heap.size + 1) (hi := w8.heap.size) hg19 (fun k hk => Z18'.2 k hk)
  have B19 := Below.off B18 f19 (by omega)
  have hz192 := f19.size
  have hkk : ¬ (1 + 2 * (S.length : Int) + (L.length : Int) + (V.length : Int) < 0) := by omega
  have hk19 := Lib.hid (hk18.out.off f19 (by omega))
  obtain ⟨ka19, kb19, kc19, kd19⟩ := hk19.out
  have RW19 := Lib.hid (RW18.out.off f19 (by omega))
  obtain ⟨wa19, wb19, wc19, wd19⟩ := RW19.out
  have W19 := Lib.hid (W18.out.off f19 (by omega))
  have G19 := Lib.hid (G18.out.off f19 (by omega))
  have RG19 := Lib.hid (RG18.out.off f19 (by omega))
  obtain ⟨ga19, gb19, gc19, gd19⟩ := RG19.out
  clear hk18 ka18 kb18 kc18 kd18 RW18 wa18 wb18 wc18 wd18 W18 G18 RG18 ga18 gb18 gc18 gd18 Z18' f19 hg19 B18
  go_wp2_with fail
  refine (eqRecord_any _ _ _ _ _ _ (rvI (rvB S a h L V) V) _ (by omega) (G19.out.below (by exact (by repeat (first | exact Below.refl _ _ | assumption | refine Below.drew ?_ | refine below_drewN ?_ _ | refine Below.alloc' ?_ _ | (refine Below.setCell ?_ (by first | omega | (simp; done) | (simp; omega) | exact Below.size (by assumption) | exact Nat.le_trans (Below.size (by assumption)) (by simp)) _) | (refine Below.via' ?_ (by assumption)) | (refine Below.alloc ?_ (by first | omega | (simp; done) | (simp; omega) | exact Below.size (by assumption) | exact Nat.le_trans (Below.size (by assumption)) (by simp)) _) | (refine Below.via ?_ (by assumption) (by first | omega | (simp; done) | (simp; omega) | exact Below.size (by assumption) | exact Nat.le_trans (Below.size (by assumption)) (by simp))))))).rd (W19.out.below (by exact (by repeat (first | exact Below.refl _ _ | assumption | refine Below.drew ?_ | refine below_drewN ?_ _ | refine Below.alloc' ?_ _ | (refine Below.setCell ?_ (by first | omega | (simp; done) | (simp; omega) | exact Below.size (by assumption) | exact Nat.le_trans (Below.size (by assumption)) (by simp)) _) | (refine Below.via' ?_ (by assumption)) | (refine Below.alloc ?_ (by first | omega | (simp; done) | (simp; omega) | exact Below.size (by assumption) | exact Nat.le_trans (Below.size (by assumption)) (by simp)) _) | (refine Below.via ?_ (by assumption) (by first | omega | (simp; done) | (simp; omega) | exact Below.size (by assumption) | exact Nat.le_trans (Below.size (by assumption)) (by simp))))))).rd).mono ?_
  rintro e w20 ⟨rfl, hb20⟩
  have B20 : Below w.heap.size w w20 := (by repeat (first | exact Below.refl _ _ | assumption | refine Below.drew ?_ | refine below_drewN ?_ _ | refine Below.alloc' ?_ _ | (refine Below.setCell ?_ (by first | omega | (simp; done) | (simp; omega) | exact Below.size (by assumption) | exact Nat.le_trans (Below.size (by assumption)) (by simp)) _) | (refine Below.via' ?_ (by assumption)) | (refine Below.alloc ?_ (by first | omega | (simp; done) | (simp; omega) | exact Below.size (by assumption) | exact Nat.le_trans (Below.size (by assumption)) (by simp)) _) | (refine Below.via ?_ (by assumption) (by first | omega | (simp; done) | (simp; omega) | exact Below.size (by assumption) | exact Nat.le_trans (Below.size (by assumption)) (by simp)))))
  have hz202 := hb20.size
  have hk20 := Lib.hid (hk19.out.below hb20)
  obtain ⟨ka20, kb20, kc20, kd20⟩ := hk20.out
  have RW20 := Lib.hid (RW19.out.below hb20)
  obtain ⟨wa20, wb20, wc20, wd20⟩ := RW20.out
  have W20 := Lib.hid (W19.out.below hb20)
  have G20 := Lib.hid (G19.out.below hb20)
  have RG20 := Lib.hid (RG19.out.below hb20)
  obtain ⟨ga20, gb20, gc20, gd20⟩ := RG20.out
  clear hk19 ka19 kb19 kc19 kd19 RW19 wa19 wb19 wc19 wd19 W19 G19 RG19 ga19 gb19 gc19 gd19 hb20 B19
  have G20' := G20.out
  clear G20
  go_wp2_with fail
  refine (markRecord_any _ _ _ _ _ _ _ _ _ (by omega) (by omega) (by omega) G20'.1).mono ?_
  rintro e w21 ⟨rfl, ho21, hg21⟩
  have f21 := Off.of_grown (lo := w8.heap.size) (hi := w9.heap.size) hg21 (fun k hk => G20'.2 k hk)
  have B21 := Below.off B20 f21 (by omega)
  have hz212 := f21.size
  have M21 := Lib.hid (Rd.of_own ho21)
  have hq0 : ¬ (1 + ((rvI (rvB S a h L V) V).length : Int) < 0) := by omega
  have hk21 := Lib.hid (hk20.out.off f21 (by omega))
  obtain ⟨ka21, kb21, kc21, kd21⟩ := hk21.out
  have RW21 := Lib.hid (RW20.out.off f21 (by omega))
  obtain ⟨wa21, wb21, wc21, wd21⟩ := RW21.out
  have W21 := Lib.hid (W20.out.off f21 (by omega))
  have RG21 := Lib.hid (RG20.out.off f21 (by omega))
  obtain ⟨ga21, gb21, gc21, gd21⟩ := RG21.out
  clear hk20 ka20 kb20 kc20 kd20 RW20 wa20 wb20 wc20 wd20 W20 RG20 ga20 gb20 gc20 gd20 G20' f21 hg21 ho21 B20
  go_wp2_with fail
  refine (heldRecord_any _ _ _ _ _ _ _ (by omega) (by omega) (by omega) M21.out).mono ?_
  rintro e w22 ⟨rfl, hb22⟩
  have B22 : Below w.heap.size w w22 := (by repeat (first | exact Below.refl _ _ | assumption | refine Below.drew ?_ | refine below_drewN ?_ _ | refine Below.alloc' ?_ _ | (refine Below.setCell ?_ (by first | omega | (simp; done) | (simp; omega) | exact Below.size (by assumption) | exact Nat.le_trans (Below.size (by assumption)) (by simp)) _) | (refine Below.via' ?_ (by assumption)) | (refine Below.alloc ?_ (by first | omega | (simp; done) | (simp; omega) | exact Below.size (by assumption) | exact Nat.le_trans (Below.size (by assumption)) (by simp)) _) | (refine Below.via ?_ (by assumption) (by first | omega | (simp; done) | (simp; omega) | exact Below.size (by assumption) | exact Nat.le_trans (Below.size (by assumption)) (by simp)))))
  have hz222 := hb22.size
  have hk22 := Lib.hid (hk21.out.below hb22)
  obtain ⟨ka22, kb22, kc22, kd22⟩ := hk22.out
  have RW22 := Lib.hid (RW21.out.below hb22)
  obtain ⟨wa22, wb22, wc22, wd22⟩ := RW22.out
  have W22 := Lib.hid (W21.out.below hb22)
  have RG22 := Lib.hid (RG21.out.below hb22)
  obtain ⟨ga22, gb22, gc22, gd22⟩ := RG22.out
  have M22 := Lib.hid (M21.out.below hb22)
  clear hk21 ka21 kb21 kc21 kd21 RW21 wa21 wb21 wc21 wd21 W21 RG21 ga21 gb21 gc21 gd21 M21 hb22 B21
  have hB22 := B22
  have hly22 : w.heap.size ≤ w22.heap.size := B22.size
  go_upto_region 37 with fail
  go_cut [18, 19] (fun s18 s19 wx => RvAt s18 (rvB S a h L V) a h V w22.heap.size wx ∧ s19 = .bool (rvB S a h L V) ∧ Below w22.heap.size w22 wx)
  case first =>
    clear RW22 wa22 wb22 wc22 wd22 W22 RG22 ga22 gb22 gc22 gd22 M22 hq0 hkk
    go_region_held3 (fun w' => Below w22.heap.size w22 w' ∧ (∀ b o, b < w22.heap.size → w'.cell? ⟨b, o, none⟩ = w22.cell? ⟨b, o, none⟩)) (first | exact keep_of (Below.refl _ _) | ((try go_split_ands); exact keep_of (by repeat (first | exact Below.refl _ _ | assumption | refine Below.drew ?_ | refine below_drewN ?_ _ | refine Below.alloc' ?_ _ | (refine Below.setCell ?_ (by first | omega | (simp; done) | (simp; omega) | exact Below.size (by assumption) | exact Nat.le_trans (Below.size (by assumption)) (by simp)) _) | (refine Below.via' ?_ (by assumption)) | (refine Below.alloc ?_ (by first | omega | (simp; done) | (simp; omega) | exact Below.size (by assumption) | exact Nat.le_trans (Below.size (by assumption)) (by simp)) _) | (refine Below.via ?_ (by assumption) (by first | omega | (simp; done) | (simp; omega) | exact Below.size (by assumption) | exact Nat.le_trans (Below.size (by assumption)) (by simp))))))) (first
      | (go_at_call 29; refine (toVariableS_any _ _ S _ hm (hS.out.below (by exact (by repeat (first | exact Below.refl _ _ | assumption | refine Below.drew ?_ | refine below_drewN ?_ _ | refine Below.alloc' ?_ _ | (refine Below.setCell ?_ (by first | omega | (simp; done) | (simp; omega) | exact Below.size (by assumption) | exact Nat.le_trans (Below.size (by assumption)) (by simp)) _) | (refine Below.via' ?_ (by assumption)) | (refine Below.alloc ?_ (by first | omega | (simp; done) | (simp; omega) | exact Below.size (by assumption) | exact Nat.le_trans (Below.size (by assumption)) (by simp)) _) | (refine Below.via ?_ (by assumption) (by first | omega | (simp; done) | (simp; omega) | exact Below.size (by assumption) | exact Nat.le_trans (Below.size (by assumption)) (by simp)))))))).mono ?_; rintro e w32 ⟨rfl, ho32, hb32⟩; (try simp only [drew_size, World.size_alloc] at ho32); (have hj32 := Lib.hid (show SIn w32 _ S.length S from ⟨hm, Nat.le_refl _, hn.out, Rd.of_own ho32⟩)); obtain ⟨hcl32, hfr32⟩ := bcell hb32; (have hz32 := hb32.size); (try simp at hz32); (try (have l32a : w22.heap.size < w32.heap.size := by omega)))
      | (go_at_call 30; refine (toRecord_any _ _ _ _ L _ hmL (hL.out.below (by exact (by repeat (first | exact Below.refl _ _ | assumption | refine Below.drew ?_ | refine below_drewN ?_ _ | refine Below.alloc' ?_ _ | (refine Below.setCell ?_ (by first | omega | (simp; done) | (simp; omega) | exact Below.size (by assumption) | exact Nat.le_trans (Below.size (by assumption)) (by simp)) _) | (refine Below.via' ?_ (by assumption)) | (refine Below.alloc ?_ (by first | omega | (simp; done) | (simp; omega) | exact Below.size (by assumption) | exact Nat.le_trans (Below.size (by assumption)) (by simp)) _) | (refine Below.via ?_ (by assumption) (by first | omega | (simp; done) | (simp; omega) | exact Below.size (by assumption) | exact Nat.le_trans (Below.size (by assumption)) (by simp)))))))).mono ?_; rintro e w33 ⟨g33, rfl, ho33, hb33⟩; (have hj33 := Lib.hid (IIn.of_owR ho33 hmL hnL.out)); obtain ⟨hcl33, hfr33⟩ := bcell hb33; (have hz33 := hb33.size); (try simp at hz33); (try (have l33a : w22.heap.size < w33.heap.size := by omega)); (try (have l33b : w32.heap.size < w33.heap.size := by omega)))
      | (go_at_call 52; refine (toIntS_any _ _ V _ (by omega) (hV.out.below (by exact (by repeat (first | exact Below.refl _ _ | assumption | refine Below.drew ?_ | refine below_drewN ?_ _ | refine Below.alloc' ?_ _ | (refine Below.setCell ?_ (by first | omega | (simp; done) | (simp; omega) | exact Below.size (by assumption) | exact Nat.le_trans (Below.size (by assumption)) (by simp)) _) | (refine Below.via' ?_ (by assumption)) | (refine Below.alloc ?_ (by first | omega | (simp; done) | (simp; omega) | exact Below.size (by assumption) | exact Nat.le_trans (Below.size (by assumption)) (by simp)) _) | (refine Below.via ?_ (by assumption) (by first | omega | (simp; done) | (simp; omega) | exact Below.size (by assumption) | exact Nat.le_trans (Below.size (by assumption)) (by simp)))))))).mono ?_; rintro e w34 ⟨rfl, ho34, hb34⟩; (try simp only [World.size_alloc] at ho34); (have hj34 := Lib.hid (show IIn w34 _ V from ⟨by omega, hnV.out, Rd.of_own ho34⟩)); obtain ⟨hcl34, hfr34⟩ := bcell hb34; (have hz34 := hb34.size); (try simp at hz34); (try (have l34a : w22.heap.size < w34.heap.size := by omega)); (try (have l34b : w32.heap.size < w34.heap.size := by omega)); (try (have l34c : w33.heap.size < w34.heap.size := by omega)))
      | (go_at_call 20; refine (iRV_x _ _ _ _ _ _ S a h L V _ (hj32.out.below (by exact (by repeat (first | exact Below.refl _ _ | assumption | refine Below.drew ?_ | refine below_drewN ?_ _ | refine Below.alloc' ?_ _ | (refine Below.setCell ?_ (by first | omega | (simp; done) | (simp; omega) | exact Below.size (by assumption) | exact Nat.le_trans (Below.size (by assumption)) (by simp)) _) | (refine Below.via' ?_ (by assumption)) | (refine Below.alloc ?_ (by first | omega | (simp; done) | (simp; omega) | exact Below.size (by assumption) | exact Nat.le_trans (Below.size (by assumption)) (by simp)) _) | (refine Below.via ?_ (by assumption) (by first | omega | (simp; done) | (simp; omega) | exact Below.size (by assumption) | exact Nat.le_trans (Below.size (by assumption)) (by simp))))))) (hj33.out.below (by exact (by repeat (first | exact Below.refl _ _ | assumption | refine Below.drew ?_ | refine below_drewN ?_ _ | refine Below.alloc' ?_ _ | (refine Below.setCell ?_ (by first | omega | (simp; done) | (simp; omega) | exact Below.size (by assumption) | exact Nat.le_trans (Below.size (by assumption)) (by simp)) _) | (refine Below.via' ?_ (by assumption)) | (refine Below.alloc ?_ (by first | omega | (simp; done) | (simp; omega) | exact Below.size (by assumption) | exact Nat.le_trans (Below.size (by assumption)) (by simp)) _) | (refine Below.via ?_ (by assumption) (by first | omega | (simp; done) | (simp; omega) | exact Below.size (by assumption) | exact Nat.le_trans (Below.size (by assumption)) (by simp))))))) (hj34.out.below (by exact (by repeat (first | exact Below.refl _ _ | assumption | refine Below.drew ?_ | refine below_drewN ?_ _ | refine Below.alloc' ?_ _ | (refine Below.setCell ?_ (by first | omega | (simp; done) | (simp; omega) | exact Below.size (by assumption) | exact Nat.le_trans (Below.size (by assumption)) (by simp)) _) | (refine Below.via' ?_ (by assumption)) | (refine Below.alloc ?_ (by first | omega | (simp; done) | (simp; omega) | exact Below.size (by assumption) | exact Nat.le_trans (Below.size (by assumption)) (by simp)) _) | (refine Below.via ?_ (by assumption) (by first | omega | (simp; done) | (simp; omega) | exact Below.size (by assumption) | exact Nat.le_trans (Below.size (by assumption)) (by simp)))))))).mono ?_; rintro e w35 ⟨x35, c35, rfl, ho35, hb35⟩; obtain ⟨hcl35, hfr35⟩ := bcell hb35; (have hz35 := hb35.size); (try simp at hz35); (try (have l35a : w22.heap.size < w35.heap.size := by omega)); (try (have l35b : w32.heap.size < w35.heap.size := by omega)); (try (have l35c : w33.heap.size < w35.heap.size := by omega)); (try (have l35d : w34.heap.size < w35.heap.size := by omega)); obtain ⟨d0, d1, d2, e0, e1, e2⟩ := rec_zero w35; (have ho35h := Lib.hid ho35); clear ho35))
    all_goals
      go_wp2_with fail
      go_meet
      refine ⟨⟨_, x35, c35, rfl, ⟨by go_simp, by go_simp, by go_simp, by simp; try omega⟩, by omega, ?_, ?_⟩, rfl, (by repeat (first | exact Below.refl _ _ | assumption | refine Below.drew ?_ | refine below_drewN ?_ _ | refine Below.alloc' ?_ _ | (refine Below.setCell ?_ (by first | omega | (simp; done) | (simp; omega) | exact Below.size (by assumption) | exact Nat.le_trans (Below.size (by assumption)) (by simp)) _) | (refine Below.via' ?_ (by assumption)) | (refine Below.alloc ?_ (by first | omega | (simp; done) | (simp; omega) | exact Below.size (by assumption) | exact Nat.le_trans (Below.size (by assumption)) (by simp)) _) | (refine Below.via ?_ (by assumption) (by first | omega | (simp; done) | (simp; omega) | exact Below.size (by assumption) | exact Nat.le_trans (Below.size (by assumption)) (by simp)))))⟩
      · first
          | exact (own_box (ho35h.out.more (by first | omega | (simp; omega)) (Nat.le_refl _)) (fun k hk => by have := ho35h.out.2 k hk; (try simp at this); omega)).more (Nat.le_refl _) (by simp)
          | exact ((ho35h.out.more (by first | omega | (simp; omega)) (Nat.le_refl _)).below ((Below.refl _ _).alloc (Nat.le_refl _) _)).more (Nat.le_refl _) (by simp)
      · intro k hk
        have := ho35h.out.2 k hk
        (try simp at this)
        omega
  case rest =>
    obtain ⟨⟨gh, xh, ch, rfl, hh, hgh, ohh, hnh⟩, rfl, hb36⟩ := hcut
    obtain ⟨w36, rfl⟩ : ∃ u : World, u = wc := ⟨_, rfl⟩
    have B36 : Below w.heap.size w w36 := Below.via' hB22 hb36
    have RH36 := Lib.hid hh
    obtain ⟨va36, vb36, vc36, vd36⟩ := RH36.out
    have H36 := Lib.hid ohh
    have RW36 := Lib.hid (RW22.out.below hb36)
    obtain ⟨wa36, wb36, wc36, wd36⟩ := RW36.out
    have W36 := Lib.hid (W22.out.below hb36)
    have RG36 := Lib.hid (RG22.out.below hb36)
    obtain ⟨ga36, gb36, gc36, gd36⟩ := RG36.out
    have M36 := Lib.hid (M22.out.below hb36)
    clear RW22 wa22 wb22 wc22 wd22 W22 RG22 ga22 gb22 gc22 gd22 M22 hk22 ka22 kb22 kc22 kd22 hb36 hh ohh hnh B22 hB22
    go_wp2_with fail
    refine (eqRecord_any _ _ _ _ _ _ (rvI (rvB S a h L V) V) _ (by omega) (H36.out.below (by exact (by repeat (first | exact Below.refl _ _ | assumption | refine Below.drew ?_ | refine below_drewN ?_ _ | refine Below.alloc' ?_ _ | (refine Below.setCell ?_ (by first | omega | (simp; done) | (simp; omega) | exact Below.size (by assumption) | exact Nat.le_trans (Below.size (by assumption)) (by simp)) _) | (refine Below.via' ?_ (by assumption)) | (refine Below.alloc ?_ (by first | omega | (simp; done) | (simp; omega) | exact Below.size (by assumption) | exact Nat.le_trans (Below.size (by assumption)) (by simp)) _) | (refine Below.via ?_ (by assumption) (by first | omega | (simp; done) | (simp; omega) | exact Below.size (by assumption) | exact Nat.le_trans (Below.size (by assumption)) (by simp))))))).rd (W36.out.below (by exact (by repeat (first | exact Below.refl _ _ | assumption | refine Below.drew ?_ | refine below_drewN ?_ _ | refine Below.alloc' ?_ _ | (refine Below.setCell ?_ (by first | omega | (simp; done) | (simp; omega) | exact Below.size (by assumption) | exact Nat.le_trans (Below.size (by assumption)) (by simp)) _) | (refine Below.via' ?_ (by assumption)) | (refine Below.alloc ?_ (by first | omega | (simp; done) | (simp; omega) | exact Below.size (by assumption) | exact Nat.le_trans (Below.size (by assumption)) (by simp)) _) | (refine Below.via ?_ (by assumption) (by first | omega | (simp; done) | (simp; omega) | exact Below.size (by assumption) | exact Nat.le_trans (Below.size (by assumption)) (by simp))))))).rd).mono ?_
    rintro e w37 ⟨rfl, hb37⟩
    have B37 : Below w.heap.size w w37 := (by repeat (first | exact Below.refl _ _ | assumption | refine Below.drew ?_ | refine below_drewN ?_ _ | refine Below.alloc' ?_ _ | (refine Below.setCell ?_ (by first | omega | (simp; done) | (simp; omega) | exact Below.size (by assumption) | exact Nat.le_trans (Below.size (by assumption)) (by simp)) _) | (refine Below.via' ?_ (by assumption)) | (refine Below.alloc ?_ (by first | omega | (simp; done) | (simp; omega) | exact Below.size (by assumption) | exact Nat.le_trans (Below.size (by assumption)) (by simp)) _) | (refine Below.via ?_ (by assumption) (by first | omega | (simp; done) | (simp; omega) | exact Below.size (by assumption) | exact Nat.le_trans (Below.size (by assumption)) (by simp)))))
    have RG37 := Lib.hid (RG36.out.below hb37)
    obtain ⟨ga37, gb37, gc37, gd37⟩ := RG37.out
    have M37 := Lib.hid (M36.out.below hb37)
    clear RG36 ga36 gb36 gc36 gd36 M36 RW36 wa36 wb36 wc36 wd36 W36 hb37 B36 RH36 va36 vb36 vc36 vd36 H36
    go_wp2_with fail
    refine (heldRecord_any _ _ _ _ _ _ _ (by omega) (by omega) (by omega) M37.out).mono ?_
    rintro e w38 ⟨rfl, hb38⟩
    go_wp2
    go_ret
    exact ⟨rfl, (by repeat (first | exact Below.refl _ _ | assumption | refine Below.drew ?_ | refine below_drewN ?_ _ | refine Below.alloc' ?_ _ | (refine Below.setCell ?_ (by first | omega | (simp; done) | (simp; omega) | exact Below.size (by assumption) | exact Nat.le_trans (Below.size (by assumption)) (by simp)) _) | (refine Below.via' ?_ (by assumption)) | (refine Below.alloc ?_ (by first | omega | (simp; done) | (simp; omega) | exact Below.size (by assumption) | exact Nat.le_trans (Below.size (by assumption)) (by simp)) _) | (refine Below.via ?_ (by assumption) (by first | omega | (simp; done) | (simp; omega) | exact Below.size (by assumption) | exact Nat.le_trans (Below.size (by assumption)) (by simp)))))⟩

set_option maxRecDepth 100000 in
theorem fnExactReplaceValues_lifted (os : Os) (started : os.Started) (H : Type) (enc : TypeId × Value → H) :
    ReturnsInHanded {} Try.checked os 10 .any (Rows.fnExactReplaceValuesSpec.pre6 enc Try.prog Try.f10 Rows.fnExactReplaceValuesRow.domain false) (Rows.fnExactReplaceValuesSpec.post enc Try.prog Try.f10 false true false false) := by
  refine returnsInHanded_of_change (C := Try.checked) own started (by kernel_rfl) Try.func10
    (ChangeSpec.witness6 (enc := enc) (C := Try.checked) false ⟨#[], #[.slice none 0 0, .agg #[.int .i64 0, .int .i64 0, .slice none 0 0], .slice none 0 0], []⟩ 8 (by kernel_rfl) (by kernel_rfl) (by kernel_rfl) (by kernel_rfl)) ?_
  intro W base args ds gs before hval0 hW hcnd _
  have hval : ∀ (j : Nat) t v, Try.f10.params[j]? = some t → args[j]? = some v → Value.okWide Try.prog W .any base t v := hval0
  have hW' := hW
  obtain ⟨p, q, hA0, hV, rfl, hfz, hnd⟩ := hW
  have hA : DataW.TrodAll enc Try.prog W 0 (fun _ => true) true Try.f10.params.toList args.toList ds p := hA0
  rw [Try.params10] at hA hval
  obtain ⟨v0, v1, v2, d0, d1, d2, p0, p1, p2, rfl, rfl, rfl, h0, h1, h2⟩ := trodAll_three hA
  obtain ⟨x, cap, S, rfl, hlen, hn, hS⟩ := open_vars (hval 0 _ v0 rfl rfl) h0
  obtain ⟨a, h, y, cap2, L, rfl, hlL, _, _, hnL, hL⟩ := open_rec (hval 1 _ v1 rfl rfl) h1
  obtain ⟨z, cap3, V, rfl, _, hnV, hVr⟩ := open_intS (hval 2 _ v2 rfl rfl) h2
  refine (fnExactReplaceValues_any x y z cap cap2 cap3 S a h L V W hlen hn hS hlL hnL hL hnV hVr).mono fun e W' ⟨he, hb⟩ => ?_
  subst he
  obtain ⟨rfl, rfl⟩ := trodVars_none hV
  exact ⟨_, rfl, law_post laidOut (by kernel_rfl) (by kernel_rfl) rfl Try.underlying4 (fun _ _ _ _ => rfl) hW' hb⟩

theorem fnExactReplaceValues_holds : Rows.FnExactReplaceValuesSaid :=
  OpenClaim.holds_of_wide 10 Try.f10 rfl rfl rfl rfl rfl rfl rfl ⟨rfl, rfl, rfl, rfl, rfl⟩ rfl rfl rfl rfl rfl (by kernel_rfl) Try.func10 (by kernel_rfl)
    (of_decide_eq_true (by kernel_rfl)) (by unfold Func.isWrapper; first | (rw [if_pos (by decide +kernel)]; kernel_rfl) | (rw [if_neg (by decide +kernel)]; exact ⟨rfl, rfl⟩))
    (fun os started H enc _ => fnExactReplaceValues_lifted os started H enc)
end Go.Proofs.Ytdakmdjcmjpogaa
