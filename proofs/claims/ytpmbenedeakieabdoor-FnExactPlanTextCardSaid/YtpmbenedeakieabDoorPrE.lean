import Derived.Test.YtpmbenedeakieabDoorEdH
import Derived.Test.YtpmbenedeakieabDoorApp
namespace Go.Proofs.YtpmbenedeakieabDoor
open Go.RowKit
set_option maxRecDepth 100000

/-- A list that a function hands back. -/
def RetL (L : List Int) (w : World) (e : Ending) (w' : World) : Prop := ∃ v, e = .returned v ∧ w'.ownsRow w.heap.size 3 1 v L.length (iC L) ∧ Below w.heap.size w w'
def RetLB (L : List Int) (b : Bool) (w : World) (e : Ending) (w' : World) : Prop := ∃ v, e = .returned (.tuple #[v, .bool b]) ∧ w'.ownsRow w.heap.size 3 1 v L.length (iC L) ∧ Below w.heap.size w w'
theorem iC_appE (A B : List Int) : iC (A ++ B) = iC A ++ iC B := by unfold iC; rw [List.map_append]
theorem rd_oneE (w : World) (t : TypeId) (n : Int) (g : Nat) (h : w.heap.size = g) : Rd (w.alloc (.cells #[.int .i64 n] t)) (some ⟨g, 0, none⟩) (iC [n]) := by
  subst h
  refine Or.inr ⟨w.heap.size, 0, rfl, by simp, fun j u hj => ?_⟩
  rw [Nat.zero_add, World.cell?_alloc_at _ _ _ _ rfl, ← hj, ← Array.getElem?_toList]
  rfl
theorem own_snocE {w : World} {base e k : Nat} {u : Value} {L M : List Int} {a : Int} (h : w.ownsRow base e 1 u (L.length + 1) (iC L ++ iC [a])) (hk : M = L ++ [a]) (hn : k = M.length) : w.ownsRow base e 1 u k (iC M) := by
  subst hk hn
  rw [iC_appE, List.length_append]
  exact h
theorem QB.restE {w1 w3 : World} {g : Nat} {y : Option Addr} {n c : Nat} {o : Obj} {r : Option Nat} (h : QB w1 g y n c) (hg : (w1.alloc o).grownBy w3 r) (hr : ∀ k, r = some k → g < k) : QB w3 g y n c :=
  (h.below ((Below.refl _ _).alloc (Nat.le_refl _) o)).grown hg (fun e => by have := hr g e.symm; omega)
theorem wrapU (i : Nat) (h : i ≤ 100) : IntKind.u64.wrap (i : Int) = i := by rw [show IntKind.u64.wrap (i : Int) = (i : Int) % 18446744073709551616 by simp [IntKind.wrap, IntKind.bits, IntKind.signed]]; omega
theorem div_pos8 {x : Int} {i : Nat} (h0 : 0 ≤ x) (h1 : x ≤ 255) (hi : i ≤ 8) : (0 < x / 2 ^ i → i < 8) ∧ (¬ 0 < x / 2 ^ i → x.toNat < 2 ^ i) := by
  obtain ⟨a, rfl⟩ := Int.eq_ofNat_of_zero_le h0
  have hp : 0 < 2 ^ i := Nat.two_pow_pos i
  constructor
  · intro h
    rcases Nat.lt_or_ge i 8 with h8 | h8
    · exact h8
    · obtain rfl : i = 8 := by omega
      omega
  · intro h
    rw [Int.toNat_natCast]
    rcases Nat.lt_or_ge a (2 ^ i) with h2 | h2
    · exact h2
    · exfalso
      apply h
      have h3 : 0 < a / 2 ^ i := Nat.div_pos h2 hp
      have h4 : (((a / 2 ^ i : Nat)) : Int) = (a : Int) / 2 ^ i := by push_cast; rfl
      omega
set_option maxHeartbeats 2000000 in
theorem eLevels_any (x : Int) (w : World) (h0 : 0 ≤ x) (h1 : x ≤ 255) :
    Calls Tryd.prog 58 #[.int .i64 x] w (RetL (lvsL x) w) := by
  obtain ⟨i0, hii, hz0, hz1, hz2⟩ := info_parts Tryd.infoInt
  go_enter Tryd.func58, Tryd.ntmps58
  go_wp2
  go_loopw [3, 4] (fun u q wr => ∃ i : Nat, i ≤ 8 ∧ q = .int .i64 i ∧ wr.ownsRow w.heap.size 3 1 u (lvsUp x i).length (iC (lvsUp x i)) ∧ Below w.heap.size w wr) (fun _ q _ => 8 - (intOf q).toNat)
  case atStart => exact ⟨0, by omega, by go_num, World.ownsRow_nil _ _ _ _, (by repeat (first | exact Below.refl _ _ | assumption | refine Below.drew ?_ | refine below_drewN ?_ _ | refine Below.alloc' ?_ _ | (refine Below.setCell ?_ (by first | omega | (simp; done) | (simp; omega) | exact Below.size (by assumption) | exact Nat.le_trans (Below.size (by assumption)) (by simp)) _) | (refine Below.via' ?_ (by assumption)) | (refine Below.alloc ?_ (by first | omega | (simp; done) | (simp; omega) | exact Below.size (by assumption) | exact Nat.le_trans (Below.size (by assumption)) (by simp)) _) | (refine Below.via ?_ (by assumption) (by first | omega | (simp; done) | (simp; omega) | exact Below.size (by assumption) | exact Nat.le_trans (Below.size (by assumption)) (by simp)))))⟩
  case round =>
    obtain ⟨i, hi, rfl, hown, hb⟩ := hrel
    have hownh := Lib.hid hown
    clear hown
    have hsl := lvsUp_len x i
    have hwu := wrapU i (by omega)
    obtain ⟨d1, d2⟩ := div_pos8 h0 h1 hi
    by_cases hlt : 0 < x / 2 ^ i
    · have hi8 := d1 hlt
      clear d1 d2
      have hsv := shr_one h0 (by omega) i
      cases hh : hsB x i
      · have hsel := Lib.hid (lvsUp_no hh)
        rw [hh] at hsv
        have hz : (bits .and .i64 (x / 2 ^ i) 1 == 1) = false := by rw [hsv]; rfl
        replace hsv := Lib.hid hsv
        go_wp2
        go_roundw
        case rel => exact ⟨i + 1, by omega, by go_num, by rw [hsel.out]; exact hownh.out, hb⟩
        case measure => simp [intOf]; omega
      · have hsel := Lib.hid (lvsUp_yes hh)
        rw [hh] at hsv
        have hz : (bits .and .i64 (x / 2 ^ i) 1 == 1) = true := by rw [hsv]; rfl
        replace hsv := Lib.hid hsv
        have hs0 := hb.size
        go_wp2_with (at_builtin; go_loud (refine wpList_append_rd _ rfl (.tmp 18) (.tmp 20) 22 rfl (w.heap.size) 3 i0 (.int .i64 0) 1 8 Tryd.underlying22 hii hz0 hz1 hz2 rfl (by decide) _ (lvsUp x i).length (iC (lvsUp x i)) rfl ((hownh.out.alloc _)) _ 1 1 rfl (Nat.le_refl _) (by intro h; cases h) (iC [((i : Int) : Int)]) rfl (rd_oneE _ _ _ _ (by simp)) (iC_one _) (by unfold maxLen; omega) (by omega) (by simp; omega) ?_); intro v3 w3 hown3 hgrow3 hwhere3)
        obtain ⟨hb3, hl3⟩ := append_below hb (fun k hk => (hownh.out.lt k hk).1) hgrow3 hwhere3
        have hown3 := Lib.hid (own_snocE hown3 hsel.out rfl)
        clear hgrow3 hwhere3
        go_wp2
        go_roundw
        case rel => exact ⟨i + 1, by omega, by go_num, hown3.out, hb3⟩
        case measure => simp [intOf]; omega
    · have he := Lib.hid (lvsUp_all (d2 hlt) hi)
      clear d1 d2
      go_wp2
      go_ret
      exact ⟨_, rfl, by rw [← he.out]; exact hownh.out, hb⟩

set_option maxHeartbeats 2000000 in
theorem levelsIn_any (nm : ByteArray) (lv x : Int) (w : World) (h : 2 ≤ lv ∧ lv ≤ 8) (h0 : 1 ≤ x) (h1 : x ≤ flZ lv) :
    Calls Tryd.prog 94 #[.agg #[.string nm, .int .i64 lv], .int .i64 x] w (RetL (lvsL x) w) := by
  obtain ⟨i0, hii, hz0, hz1, hz2⟩ := info_parts Tryd.infoInt
  have hf := flZ_bd h
  have hall := Lib.hid (lvsUp_all (flZ_lt (by omega) h1) (i := lv.toNat) (by omega))
  obtain ⟨l, rfl⟩ := Int.eq_ofNat_of_zero_le (show 0 ≤ lv by omega)
  rw [Int.toNat_natCast] at hall
  have hl2 : 2 ≤ l ∧ l ≤ 8 := by omega
  generalize hfz : flZ (l : Int) = fz at *
  clear hfz
  go_enter Tryd.func94, Tryd.ntmps94
  go_wp2
  go_loopw [5, 9] (fun u q wr => ∃ i : Nat, i ≤ l ∧ q = .int .i64 i ∧ wr.ownsRow (w.heap.size + 1) 3 1 u (lvsUp x i).length (iC (lvsUp x i)) ∧ Below w.heap.size w wr ∧ w.heap.size + 1 ≤ wr.heap.size) (fun _ q _ => l - (intOf q).toNat)
  case atStart => exact ⟨0, by omega, by go_num, World.ownsRow_nil _ _ _ _, (by repeat (first | exact Below.refl _ _ | assumption | refine Below.drew ?_ | refine below_drewN ?_ _ | refine Below.alloc' ?_ _ | (refine Below.setCell ?_ (by first | omega | (simp; done) | (simp; omega) | exact Below.size (by assumption) | exact Nat.le_trans (Below.size (by assumption)) (by simp)) _) | (refine Below.via' ?_ (by assumption)) | (refine Below.alloc ?_ (by first | omega | (simp; done) | (simp; omega) | exact Below.size (by assumption) | exact Nat.le_trans (Below.size (by assumption)) (by simp)) _) | (refine Below.via ?_ (by assumption) (by first | omega | (simp; done) | (simp; omega) | exact Below.size (by assumption) | exact Nat.le_trans (Below.size (by assumption)) (by simp))))), by simp⟩
  case round =>
    obtain ⟨i, hi, rfl, hown, hb, hs0⟩ := hrel
    have hownh := Lib.hid hown
    clear hown
    have hsl := lvsUp_len x i
    by_cases hlt : i < l
    · have hlt' : (i : Int) < (l : Int) := by omega
      cases hh : hsB x i
      · have hsel := Lib.hid (lvsUp_no hh)
        go_wp2_with fail
        refine (hasLevel_any _ _ _ (by omega) (by omega) (by omega) (by omega)).mono ?_
        rintro e w2 ⟨rfl, rfl⟩
        rw [hh]
        go_wp2
        go_roundw
        case rel => exact ⟨i + 1, by omega, by go_num, by rw [hsel.out]; exact hownh.out, hb, hs0⟩
        case measure => simp [intOf]; omega
      · have hsel := Lib.hid (lvsUp_yes hh)
        go_wp2_with fail
        refine (hasLevel_any _ _ _ (by omega) (by omega) (by omega) (by omega)).mono ?_
        rintro e w2 ⟨rfl, rfl⟩
        rw [hh]
        go_wp2_with (at_builtin; go_loud (refine wpList_append_rd _ rfl (.tmp 15) (.tmp 17) 22 rfl ((w.heap.size + 1)) 3 i0 (.int .i64 0) 1 8 Tryd.underlying22 hii hz0 hz1 hz2 rfl (by decide) _ (lvsUp x i).length (iC (lvsUp x i)) rfl ((hownh.out.alloc _)) _ 1 1 rfl (Nat.le_refl _) (by intro h; cases h) (iC [((i : Int) : Int)]) rfl (rd_oneE _ _ _ _ (by simp)) (iC_one _) (by unfold maxLen; omega) (by omega) (by simp; omega) ?_); intro v3 w3 hown3 hgrow3 hwhere3)
        obtain ⟨hb3, -⟩ := append_below hb (fun k hk => by have := (hownh.out.lt k hk).1; omega) hgrow3 hwhere3
        have hs3 := hgrow3.size
        have hown3 := Lib.hid (own_snocE hown3 hsel.out rfl)
        clear hgrow3 hwhere3
        go_wp2
        go_roundw
        case rel => exact ⟨i + 1, by omega, by go_num, hown3.out, hb3, by simp at hs3; omega⟩
        case measure => simp [intOf]; omega
    · have hij : i = l := by omega
      subst hij
      go_wp2
      go_ret
      exact ⟨_, rfl, by rw [← hall.out]; exact own_more hownh.out (by omega), hb⟩
end Go.Proofs.YtpmbenedeakieabDoor

namespace Go.Proofs.YtpmbenedeakieabDoor
open Go.RowKit
set_option maxRecDepth 100000

theorem retLB_no {L : List Int} {b : Bool} {w w' : World} (hb : b = false) (h : Below w.heap.size w w') : RetLB (eIf b L) b w (.returned (.tuple #[.slice none 0 0, .bool false])) w' := by
  subst hb
  exact ⟨_, rfl, World.ownsRow_nil _ _ _ _, h⟩
theorem retLB_yes {L : List Int} {b : Bool} {w w' : World} {v : Value} (hb : b = true) (ho : w'.ownsRow w.heap.size 3 1 v L.length (iC L)) (h : Below w.heap.size w w') : RetLB (eIf b L) b w (.returned (.tuple #[v, .bool true])) w' := by
  subst hb
  rw [eIf_t rfl]
  exact ⟨_, rfl, ho, h⟩
theorem retN_no {n : Int} {b : Bool} {w w' : World} (hb : b = false) (h : Below w.heap.size w w') : Ending.returned (.tuple #[.int .i64 0, .bool false]) = .returned (.tuple #[.int .i64 (nIf b n), .bool b]) ∧ Below w.heap.size w w' := by
  subst hb
  exact ⟨rfl, h⟩
theorem retN_yes {n m : Int} {b : Bool} {w w' : World} (hb : b = true) (hm : m = n) (h : Below w.heap.size w w') : Ending.returned (.tuple #[.int .i64 m, .bool true]) = .returned (.tuple #[.int .i64 (nIf b n), .bool b]) ∧ Below w.heap.size w w' := by
  subst hb hm
  exact ⟨rfl, h⟩
/-- The list of the involved variables, step by step. -/
def ivUp (S : List (ByteArray × Int)) (E : List Int) (i : Nat) : List Int := pkUp (ivB S E) i
theorem ivUp_len (S : List (ByteArray × Int)) (E : List Int) (i : Nat) : (ivUp S E i).length ≤ i := pkUp_len _ _
end Go.Proofs.YtpmbenedeakieabDoor

namespace Go.Proofs.YtpmbenedeakieabDoor
open Go.RowKit
set_option maxRecDepth 100000

/-- Does the edit with this index fail? The failed edits. -/
def feB (M : List (List Int)) (V : List Int) (i : Nat) : Bool := match M[i]? with | some E => fsB E V | none => false
theorem fe_at {M : List (List Int)} {V E : List Int} {i : Nat} (h : M[i]? = some E) : feB M V i = fsB E V := by unfold feB; rw [h]
def feUp (M : List (List Int)) (V : List Int) (n : Nat) : List Int := pkUp (feB M V) n
theorem feUp_len (M : List (List Int)) (V : List Int) (n : Nat) : (feUp M V n).length ≤ n := pkUp_len _ _
def feL (M : List (List Int)) (V : List Int) : List Int := feUp M V M.length
theorem feL_len (M : List (List Int)) (V : List Int) : (feL M V).length ≤ M.length := pkUp_len _ _
/-- A schema, a list of edits and values for it. -/
def slfB (S : List (ByteArray × Int)) (M : List (List Int)) (V : List Int) : Bool := elB S M && fitB S V
theorem slf_no1 {S : List (ByteArray × Int)} {M : List (List Int)} {V : List Int} (h : elB S M = false) : slfB S M V = false := by unfold slfB; rw [h]; rfl
theorem slf_no2 {S : List (ByteArray × Int)} {M : List (List Int)} {V : List Int} (h : fitB S V = false) : slfB S M V = false := by unfold slfB; rw [h, Bool.and_false]
theorem slf_yes {S : List (ByteArray × Int)} {M : List (List Int)} {V : List Int} (h : elB S M = true) (k : fitB S V = true) : slfB S M V = true := by unfold slfB; rw [h, k]; rfl

theorem tot_eM {T Q : List PR} (h : eM T = eM Q) : tot T = tot Q := by
  have h1 : ∀ P : List PR, tot P = ((eM P).map List.length).sum := by intro P; unfold tot eM; rw [List.map_map]; rfl
  rw [h1, h1, h]
theorem slf_len {S : List (ByteArray × Int)} {M : List (List Int)} {V : List Int} (h : slfB S M V = true) : M.length ≤ 40 := by
  unfold slfB at h
  rw [Bool.and_eq_true] at h
  exact (el_get h.1).2.1
end Go.Proofs.YtpmbenedeakieabDoor

namespace Go.Proofs.YtpmbenedeakieabDoor
open Go.RowKit
set_option maxRecDepth 100000

/-- What slices.Index tells of a list and a number. -/
def ixP (L : List Int) (n k : Int) : Prop := -1 ≤ k ∧ k < 1048577 ∧ decide (0 ≤ k) = L.contains n
end Go.Proofs.YtpmbenedeakieabDoor
