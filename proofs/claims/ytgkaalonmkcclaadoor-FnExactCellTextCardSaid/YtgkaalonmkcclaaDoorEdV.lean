/-
  The walks of chapter 5: the levels in a set, how many lists of values fail an edit; involved variables; the program's and the model's.
-/
import Derived.Test.YtgkaalonmkcclaaDoorEdH
import Derived.Test.YtgkaalonmkcclaaDoorApp
namespace Go.Proofs.YtgkaalonmkcclaaDoor
open Go.RowKit
set_option maxRecDepth 100000

/-- A list that a function hands back. -/
def RetL (L : List Int) (w : World) (e : Ending) (w' : World) : Prop := ∃ v, e = .returned v ∧ w'.ownsRow w.heap.size 3 1 v L.length (iC L) ∧ Below w.heap.size w w'
def RetLB (L : List Int) (b : Bool) (w : World) (e : Ending) (w' : World) : Prop := ∃ v, e = .returned (.tuple #[v, .bool b]) ∧ w'.ownsRow w.heap.size 3 1 v L.length (iC L) ∧ Below w.heap.size w w'
theorem iC_appE (A B : List Int) : iC (A ++ B) = iC A ++ iC B := by unfold iC; rw [List.map_append]
theorem rd_oneE (w : World) (t : TypeId) (n : Int) (g : Nat) (h : w.heap.size = g) : Rd (w.alloc (.cells #[.int .i64 n] t)) (some ⟨g, 0, none⟩) (iC [n]) := by
  subst h
  refine Or.inr ⟨w.heap.size, 0, rfl, by simp, fun j u hj => ?_⟩
  rw [Nat.zero_add, World.cell?_alloc_at _ _ _ _ rfl, ← hj, ← Array.getElem?_toList]
  rfl
theorem own_snocE {w : World} {base e k : Nat} {u : Value} {L M : List Int} {a : Int} (h : w.ownsRow base e 1 u (L.length + 1) (iC L ++ iC [a])) (hk : M = L ++ [a]) (hn : k = M.length) : w.ownsRow base e 1 u k (iC M) := by
  subst hk hn
  rw [iC_appE, List.length_append]
  exact h
theorem QB.restE {w1 w3 : World} {g : Nat} {y : Option Addr} {n c : Nat} {o : Obj} {r : Option Nat} (h : QB w1 g y n c) (hg : (w1.alloc o).grownBy w3 r) (hr : ∀ k, r = some k → g < k) : QB w3 g y n c :=
  (h.below ((Below.refl _ _).alloc (Nat.le_refl _) o)).grown hg (fun e => by have := hr g e.symm; omega)
theorem wrapU (i : Nat) (h : i ≤ 100) : IntKind.u64.wrap (i : Int) = i := by rw [show IntKind.u64.wrap (i : Int) = (i : Int) % 18446744073709551616 by simp [IntKind.wrap, IntKind.bits, IntKind.signed]]; omega
theorem div_pos8 {x : Int} {i : Nat} (h0 : 0 ≤ x) (h1 : x ≤ 255) (hi : i ≤ 8) : (0 < x / 2 ^ i → i < 8) ∧ (¬ 0 < x / 2 ^ i → x.toNat < 2 ^ i) := by
  obtain ⟨a, rfl⟩ := Int.eq_ofNat_of_zero_le h0
  have hp : 0 < 2 ^ i := Nat.two_pow_pos i
  constructor
  · intro h
    rcases Nat.lt_or_ge i 8 with h8 | h8
    · exact h8
    · obtain rfl : i = 8 := by omega
      omega
  · intro h
    rw [Int.toNat_natCast]
    rcases Nat.lt_or_ge a (2 ^ i) with h2 | h2
    · exact h2
    · exfalso
      apply h
      have h3 : 0 < a / 2 ^ i := Nat.div_pos h2 hp
      have h4 : (((a / 2 ^ i : Nat)) : Int) = (a : Int) / 2 ^ i := by push_cast; rfl
      omega
set_option maxHeartbeats 2000000 in
theorem eLevels_any (x : Int) (w : World) (h0 : 0 ≤ x) (h1 : x ≤ 255) :
    Calls Tryd.prog 41 #[.int .i64 x] w (RetL (lvsL x) w) := by
  obtain ⟨i0, hii, hz0, hz1, hz2⟩ := info_parts Tryd.infoInt
  go_enter Tryd.func41, Tryd.ntmps41
  go_wp2
  go_loopw [3, 4] (fun u q wr => ∃ i : Nat, i ≤ 8 ∧ q = .int .i64 i ∧ wr.ownsRow w.heap.size 3 1 u (lvsUp x i).length (iC (lvsUp x i)) ∧ Below w.heap.size w wr) (fun _ q _ => 8 - (intOf q).toNat)
  case atStart => exact ⟨0, by omega, by go_num, World.ownsRow_nil _ _ _ _, (by repeat (first | exact Below.refl _ _ | assumption | refine Below.drew ?_ | refine below_drewN ?_ _ | refine Below.alloc' ?_ _ | (refine Below.setCell ?_ (by first | omega | (simp; done) | (simp; omega) | exact Below.size (by assumption) | exact Nat.le_trans (Below.size (by assumption)) (by simp)) _) | (refine Below.via' ?_ (by assumption)) | (refine Below.alloc ?_ (by first | omega | (simp; done) | (simp; omega) | exact Below.size (by assumption) | exact Nat.le_trans (Below.size (by assumption)) (by simp)) _) | (refine Below.via ?_ (by assumption) (by first | omega | (simp; done) | (simp; omega) | exact Below.size (by assumption) | exact Nat.le_trans (Below.size (by assumption)) (by simp)))))⟩
  case round =>
    obtain ⟨i, hi, rfl, hown, hb⟩ := hrel
    have hownh := Lib.hid hown
    clear hown
    have hsl := lvsUp_len x i
    have hwu := wrapU i (by omega)
    obtain ⟨d1, d2⟩ := div_pos8 h0 h1 hi
    by_cases hlt : 0 < x / 2 ^ i
    · have hi8 := d1 hlt
      clear d1 d2
      have hsv := shr_one h0 (by omega) i
      cases hh : hsB x i
      · have hsel := Lib.hid (lvsUp_no hh)
        rw [hh] at hsv
        have hz : (bits .and .i64 (x / 2 ^ i) 1 == 1) = false := by rw [hsv]; rfl
        replace hsv := Lib.hid hsv
        go_wp2
        go_roundw
        case rel => exact ⟨i + 1, by omega, by go_num, by rw [hsel.out]; exact hownh.out, hb⟩
        case measure => simp [intOf]; omega
      · have hsel := Lib.hid (lvsUp_yes hh)
        rw [hh] at hsv
        have hz : (bits .and .i64 (x / 2 ^ i) 1 == 1) = true := by rw [hsv]; rfl
        replace hsv := Lib.hid hsv
        have hs0 := hb.size
        go_wp2_with (at_builtin; go_loud (refine wpList_append_rd _ rfl (.tmp 18) (.tmp 20) 22 rfl (w.heap.size) 3 i0 (.int .i64 0) 1 8 Tryd.underlying22 hii hz0 hz1 hz2 rfl (by decide) _ (lvsUp x i).length (iC (lvsUp x i)) rfl ((hownh.out.alloc _)) _ 1 1 rfl (Nat.le_refl _) (by intro h; cases h) (iC [((i : Int) : Int)]) rfl (rd_oneE _ _ _ _ (by simp)) (iC_one _) (by unfold maxLen; omega) (by omega) (by simp; omega) ?_); intro v3 w3 hown3 hgrow3 hwhere3)
        obtain ⟨hb3, hl3⟩ := append_below hb (fun k hk => (hownh.out.lt k hk).1) hgrow3 hwhere3
        have hown3 := Lib.hid (own_snocE hown3 hsel.out rfl)
        clear hgrow3 hwhere3
        go_wp2
        go_roundw
        case rel => exact ⟨i + 1, by omega, by go_num, hown3.out, hb3⟩
        case measure => simp [intOf]; omega
    · have he := Lib.hid (lvsUp_all (d2 hlt) hi)
      clear d1 d2
      go_wp2
      go_ret
      exact ⟨_, rfl, by rw [← he.out]; exact hownh.out, hb⟩

set_option maxHeartbeats 2000000 in
theorem levelsIn_any (nm : ByteArray) (lv x : Int) (w : World) (h : 2 ≤ lv ∧ lv ≤ 8) (h0 : 1 ≤ x) (h1 : x ≤ flZ lv) :
    Calls Tryd.prog 76 #[.agg #[.string nm, .int .i64 lv], .int .i64 x] w (RetL (lvsL x) w) := by
  obtain ⟨i0, hii, hz0, hz1, hz2⟩ := info_parts Tryd.infoInt
  have hf := flZ_bd h
  have hall := Lib.hid (lvsUp_all (flZ_lt (by omega) h1) (i := lv.toNat) (by omega))
  obtain ⟨l, rfl⟩ := Int.eq_ofNat_of_zero_le (show 0 ≤ lv by omega)
  rw [Int.toNat_natCast] at hall
  have hl2 : 2 ≤ l ∧ l ≤ 8 := by omega
  generalize hfz : flZ (l : Int) = fz at *
  clear hfz
  go_enter Tryd.func76, Tryd.ntmps76
  go_wp2
  go_loopw [5, 9] (fun u q wr => ∃ i : Nat, i ≤ l ∧ q = .int .i64 i ∧ wr.ownsRow (w.heap.size + 1) 3 1 u (lvsUp x i).length (iC (lvsUp x i)) ∧ Below w.heap.size w wr ∧ w.heap.size + 1 ≤ wr.heap.size) (fun _ q _ => l - (intOf q).toNat)
  case atStart => exact ⟨0, by omega, by go_num, World.ownsRow_nil _ _ _ _, (by repeat (first | exact Below.refl _ _ | assumption | refine Below.drew ?_ | refine below_drewN ?_ _ | refine Below.alloc' ?_ _ | (refine Below.setCell ?_ (by first | omega | (simp; done) | (simp; omega) | exact Below.size (by assumption) | exact Nat.le_trans (Below.size (by assumption)) (by simp)) _) | (refine Below.via' ?_ (by assumption)) | (refine Below.alloc ?_ (by first | omega | (simp; done) | (simp; omega) | exact Below.size (by assumption) | exact Nat.le_trans (Below.size (by assumption)) (by simp)) _) | (refine Below.via ?_ (by assumption) (by first | omega | (simp; done) | (simp; omega) | exact Below.size (by assumption) | exact Nat.le_trans (Below.size (by assumption)) (by simp))))), by simp⟩
  case round =>
    obtain ⟨i, hi, rfl, hown, hb, hs0⟩ := hrel
    have hownh := Lib.hid hown
    clear hown
    have hsl := lvsUp_len x i
    by_cases hlt : i < l
    · have hlt' : (i : Int) < (l : Int) := by omega
      cases hh : hsB x i
      · have hsel := Lib.hid (lvsUp_no hh)
        go_wp2_with fail
        refine (hasLevel_any _ _ _ (by omega) (by omega) (by omega) (by omega)).mono ?_
        rintro e w2 ⟨rfl, rfl⟩
        rw [hh]
        go_wp2
        go_roundw
        case rel => exact ⟨i + 1, by omega, by go_num, by rw [hsel.out]; exact hownh.out, hb, hs0⟩
        case measure => simp [intOf]; omega
      · have hsel := Lib.hid (lvsUp_yes hh)
        go_wp2_with fail
        refine (hasLevel_any _ _ _ (by omega) (by omega) (by omega) (by omega)).mono ?_
        rintro e w2 ⟨rfl, rfl⟩
        rw [hh]
        go_wp2_with (at_builtin; go_loud (refine wpList_append_rd _ rfl (.tmp 15) (.tmp 17) 22 rfl ((w.heap.size + 1)) 3 i0 (.int .i64 0) 1 8 Tryd.underlying22 hii hz0 hz1 hz2 rfl (by decide) _ (lvsUp x i).length (iC (lvsUp x i)) rfl ((hownh.out.alloc _)) _ 1 1 rfl (Nat.le_refl _) (by intro h; cases h) (iC [((i : Int) : Int)]) rfl (rd_oneE _ _ _ _ (by simp)) (iC_one _) (by unfold maxLen; omega) (by omega) (by simp; omega) ?_); intro v3 w3 hown3 hgrow3 hwhere3)
        obtain ⟨hb3, -⟩ := append_below hb (fun k hk => by have := (hownh.out.lt k hk).1; omega) hgrow3 hwhere3
        have hs3 := hgrow3.size
        have hown3 := Lib.hid (own_snocE hown3 hsel.out rfl)
        clear hgrow3 hwhere3
        go_wp2
        go_roundw
        case rel => exact ⟨i + 1, by omega, by go_num, hown3.out, hb3, by simp at hs3; omega⟩
        case measure => simp [intOf]; omega
    · have hij : i = l := by omega
      subst hij
      go_wp2
      go_ret
      exact ⟨_, rfl, by rw [← hall.out]; exact own_more hownh.out (by omega), hb⟩
end Go.Proofs.YtgkaalonmkcclaaDoor
