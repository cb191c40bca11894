/-
  The walks of chapter 2: texts of schemas, the program's and the model's.
-/
import Derived.Test.YtbglogaljjfnnaaDoorSchN
import Derived.Test.YtbglogaljjfnnaaDoorText
import Derived.Test.YtbglogaljjfnnaaDoorSpl
import Derived.Lib.Join
namespace Go.Proofs.YtbglogaljjfnnaaDoor
open Go.RowKit
set_option maxRecDepth 100000

/-- A variable's text. -/
def vaT (p : ByteArray × Int) : ByteArray := p.1 ++ ⟨#[58]⟩ ++ numZ p.2
def vaL (p : ByteArray × Int) : List UInt8 := (vaT p).data.toList
/-- The text of a list of variables. -/
def stT (S : List (ByteArray × Int)) : ByteArray := ⟨(Lib.join (S.map vaL) [44]).toArray⟩
theorem stT_nil : stT [] = ⟨#[]⟩ := rfl
theorem stT_first {S : List (ByteArray × Int)} {p : ByteArray × Int} (h : S[0]? = some p) : stT (S.take 1) = vaT p := by
  cases S with
  | nil => simp at h
  | cons q r =>
    simp at h
    subst h
    unfold stT
    rw [List.take_succ_cons, List.take_zero, List.map_cons, List.map_nil, Lib.join_one]
    unfold vaL
    apply ByteArray.ext
    simp
theorem stT_next {S : List (ByteArray × Int)} {i : Nat} {p : ByteArray × Int} (hi : 0 < i) (h : S[i]? = some p) : stT (S.take (i + 1)) = stT (S.take i) ++ ⟨#[44]⟩ ++ vaT p := by
  cases S with
  | nil => simp at h
  | cons q r =>
    obtain ⟨k, rfl⟩ : ∃ k, i = k + 1 := ⟨i - 1, by omega⟩
    simp only [List.getElem?_cons_succ] at h
    unfold stT
    rw [List.take_succ_cons, List.take_succ_cons, List.map_cons, List.map_cons, Lib.join_cons, Lib.join_cons, List.map_take, List.map_take, Lib.joinTail_take_succ [44] (r.map vaL) k (vaL p) (by rw [List.getElem?_map, h]; rfl)]
    apply ByteArray.ext
    simp [vaL]
theorem vaT_size {p : ByteArray × Int} (h : vaB p = true) : (vaT p).size ≤ 10 := by
  unfold vaB nmB at h
  simp only [Bool.and_eq_true, decide_eq_true_eq] at h
  obtain ⟨⟨⟨h1, h2⟩, _⟩, h3⟩ := h
  obtain ⟨h4, h5⟩ := (lvB_iff _).1 h3
  unfold vaT
  rw [numZ_small (by omega) (by omega), ByteArray.size_append, ByteArray.size_append, byteT_len, show (⟨#[58]⟩ : ByteArray).size = 1 from rfl]
  omega
theorem stT_size {S : List (ByteArray × Int)} (hs : schB S = true) : ∀ i, i ≤ S.length → (stT (S.take i)).size ≤ 11 * i
  | 0, _ => by rw [List.take_zero, stT_nil]; exact Nat.le_refl _
  | i + 1, h => by
    have ih := stT_size hs i (by omega)
    have hp : S[i]? = some S[i] := List.getElem?_eq_getElem (by omega)
    have hv := vaT_size (schB_va hs (List.mem_of_getElem? hp))
    by_cases h0 : i = 0
    · subst h0
      rw [stT_first hp]
      omega
    · rw [stT_next (by omega) hp, ByteArray.size_append, ByteArray.size_append, show (⟨#[44]⟩ : ByteArray).size = 1 from rfl]
      omega
/-- Names and numbers of a schema. -/
theorem sch_bits {S : List (ByteArray × Int)} (hs : schB S = true) {i : Nat} {nm : ByteArray} {lv : Int} (h : S[i]? = some (nm, lv)) : nm.size ≤ 8 ∧ 2 ≤ lv ∧ lv ≤ 8 ∧ (numZ lv).size = 1 ∧ nm ++ ⟨#[58]⟩ ++ numZ lv = vaT (nm, lv) := by
  have hv := schB_va hs (List.mem_of_getElem? h)
  obtain ⟨h1, h2⟩ := schB_lv hs h
  unfold vaB nmB at hv
  simp only [Bool.and_eq_true, decide_eq_true_eq] at hv
  exact ⟨hv.1.1.2, h1, h2, by rw [numZ_small (by omega) (by omega), byteT_len], rfl⟩

set_option maxHeartbeats 1000000 in
theorem sText_any (x : Option Addr) (cap : Nat) (S : List (ByteArray × Int)) (w : World) (hs : schB S = true) (hS : Rd w x (vC S)) :
    Calls Tryd.prog 16 #[.slice x S.length cap] w fun e w' => e = .returned (.string (stT S)) ∧ Below w.heap.size w w' := by
  obtain ⟨hm1, hm2⟩ := schB_len hs
  have hsh := Lib.hid hs
  clear hs
  go_enter Tryd.func16, Tryd.ntmps16
  go_wp2
  go_loopw [3, 8] (fun q c wr => ∃ i : Nat, i ≤ S.length ∧ c = .int .i64 i ∧ q = .string (stT (S.take i)) ∧ Below w.heap.size w wr) (fun _ c _ => S.length - (intOf c).toNat)
  case atStart => exact ⟨0, by omega, rfl, rfl, Below.refl _ _⟩
  case round =>
    obtain ⟨i, hi, rfl, rfl, hb⟩ := hrel
    by_cases hlt : i < S.length
    · obtain ⟨bl, off, nm, lv, rfl, hbl, hSi, hc0, hc1⟩ := (hS.below hb).var hlt
      obtain ⟨z1, z2, z3, z4, z5⟩ := sch_bits hsh.out hSi
      replace z5 := Lib.hid z5
      have hlt' : (i : Int) < (S.length : Int) := by omega
      have hsz := stT_size hsh.out i hi
      have k0 : (⟨#[58]⟩ : ByteArray).size = 1 := rfl
      have k1 : (⟨#[44]⟩ : ByteArray).size = 1 := rfl
      replace hSi := Lib.hid hSi
      clear hS
      have hs1 : ¬ 9223372036854775807 < nm.size + (⟨#[58]⟩ : ByteArray).size := by rw [k0]; omega
      have hs2 : ¬ 9223372036854775807 < (nm ++ ⟨#[58]⟩).size + (numZ lv).size := by rw [ByteArray.size_append, k0, z4]; omega
      have hs3 : ¬ 9223372036854775807 < nm.size + 1 := by omega
      have hs4 : ¬ 9223372036854775807 < nm.size + 1 + (numZ lv).size := by rw [z4]; omega
      have hs5 : ¬ 9223372036854775807 < (stT (S.take i)).size + (nm ++ ⟨#[58]⟩ ++ numZ lv).size := by rw [ByteArray.size_append, ByteArray.size_append, k0, z4]; omega
      have hs6 : ¬ 9223372036854775807 < (stT (S.take i)).size + (nm.size + 1 + (numZ lv).size) := by rw [z4]; omega
      have hs7 : ¬ 9223372036854775807 < (stT (S.take i)).size + (⟨#[44]⟩ : ByteArray).size := by rw [k1]; omega
      have hs8 : ¬ 9223372036854775807 < (stT (S.take i)).size + 1 := by omega
      have hs9 : ¬ 9223372036854775807 < (stT (S.take i) ++ ⟨#[44]⟩).size + (nm ++ ⟨#[58]⟩ ++ numZ lv).size := by rw [ByteArray.size_append, ByteArray.size_append, ByteArray.size_append, k0, k1, z4]; omega
      have hs0 : ¬ 9223372036854775807 < (stT (S.take i)).size + 1 + (nm.size + 1 + (numZ lv).size) := by rw [z4]; omega
      clear k0 k1 z4 hsz
      rcases Nat.eq_zero_or_pos i with h0 | h0
      · have e : Hid (stT (S.take (i + 1)) = stT (S.take i) ++ (nm ++ ⟨#[58]⟩ ++ numZ lv)) := by
          unfold Hid
          rw [h0] at hSi ⊢
          rw [stT_first hSi.out, List.take_zero, stT_nil, z5.out]
          exact ByteArray.empty_append.symm
        have hg : ¬ ((0 : Int) < (i : Int)) := by omega
        clear h0
        go_wp2_with fail
        go_region_held3 (fun w' => Below (wr.alloc (.cells #[.string nm, .int .i64 lv] 39)).heap.size (wr.alloc (.cells #[.string nm, .int .i64 lv] 39)) w' ∧ (∀ b o, b < (wr.alloc (.cells #[.string nm, .int .i64 lv] 39)).heap.size → w'.cell? ⟨b, o, none⟩ = (wr.alloc (.cells #[.string nm, .int .i64 lv] 39)).cell? ⟨b, o, none⟩)) (first | exact keep_of (Below.refl _ _) | ((try go_split_ands); exact keep_of (by repeat (first | exact Below.refl _ _ | assumption | refine Below.drew ?_ | refine below_drewN ?_ _ | refine Below.alloc' ?_ _ | (refine Below.setCell ?_ (by first | omega | (simp; done) | (simp; omega) | exact Below.size (by assumption) | exact Nat.le_trans (Below.size (by assumption)) (by simp)) _) | (refine Below.via' ?_ (by assumption)) | (refine Below.alloc ?_ (by first | omega | (simp; done) | (simp; omega) | exact Below.size (by assumption) | exact Nat.le_trans (Below.size (by assumption)) (by simp)) _) | (refine Below.via ?_ (by assumption) (by first | omega | (simp; done) | (simp; omega) | exact Below.size (by assumption) | exact Nat.le_trans (Below.size (by assumption)) (by simp))))))) ((go_at_call 28; refine (l1Num_any 8 lv _ (by omega) (by omega) (by omega)).mono ?_; rintro e w1 ⟨rfl, hb1⟩)); rename_i hH; obtain ⟨hb1, hcl1⟩ := hH; have hz1 := hb1.size; (try simp at hz1); (try (have hly1 := Nat.lt_of_succ_le hz1)); (try (have hlx1 := Nat.lt_of_succ_lt hly1)); (try (have hlw1 := Nat.lt_of_succ_lt hlx1)); (try (have hle1 := Nat.le_of_lt hly1)); (try (have hya1 : w.heap.size < w1.heap.size := by omega)); (try (have hyb1 : w.heap.size + 1 < w1.heap.size := by omega)); (try (have hyc1 : w.heap.size + 1 + 1 < w1.heap.size := by omega)); (try (have hyd1 : wa.heap.size < w1.heap.size := by omega))
        all_goals
          go_wp2
          go_roundw
          case rel => exact ⟨i + 1, by omega, by go_num, by rw [e.out], (by repeat (first | exact Below.refl _ _ | assumption | refine Below.drew ?_ | refine below_drewN ?_ _ | refine Below.alloc' ?_ _ | (refine Below.setCell ?_ (by first | omega | (simp; done) | (simp; omega) | exact Below.size (by assumption) | exact Nat.le_trans (Below.size (by assumption)) (by simp)) _) | (refine Below.via' ?_ (by assumption)) | (refine Below.alloc ?_ (by first | omega | (simp; done) | (simp; omega) | exact Below.size (by assumption) | exact Nat.le_trans (Below.size (by assumption)) (by simp)) _) | (refine Below.via ?_ (by assumption) (by first | omega | (simp; done) | (simp; omega) | exact Below.size (by assumption) | exact Nat.le_trans (Below.size (by assumption)) (by simp)))))⟩
          case measure => simp [intOf]; omega
      · have e : Hid (stT (S.take (i + 1)) = stT (S.take i) ++ ⟨#[44]⟩ ++ (nm ++ ⟨#[58]⟩ ++ numZ lv)) := by
          unfold Hid
          rw [stT_next h0 hSi.out, z5.out]
        have hg : (0 : Int) < (i : Int) := by omega
        go_wp2_with fail
        go_region_held3 (fun w' => Below (wr.alloc (.cells #[.string nm, .int .i64 lv] 39)).heap.size (wr.alloc (.cells #[.string nm, .int .i64 lv] 39)) w' ∧ (∀ b o, b < (wr.alloc (.cells #[.string nm, .int .i64 lv] 39)).heap.size → w'.cell? ⟨b, o, none⟩ = (wr.alloc (.cells #[.string nm, .int .i64 lv] 39)).cell? ⟨b, o, none⟩)) (first | exact keep_of (Below.refl _ _) | ((try go_split_ands); exact keep_of (by repeat (first | exact Below.refl _ _ | assumption | refine Below.drew ?_ | refine below_drewN ?_ _ | refine Below.alloc' ?_ _ | (refine Below.setCell ?_ (by first | omega | (simp; done) | (simp; omega) | exact Below.size (by assumption) | exact Nat.le_trans (Below.size (by assumption)) (by simp)) _) | (refine Below.via' ?_ (by assumption)) | (refine Below.alloc ?_ (by first | omega | (simp; done) | (simp; omega) | exact Below.size (by assumption) | exact Nat.le_trans (Below.size (by assumption)) (by simp)) _) | (refine Below.via ?_ (by assumption) (by first | omega | (simp; done) | (simp; omega) | exact Below.size (by assumption) | exact Nat.le_trans (Below.size (by assumption)) (by simp))))))) ((go_at_call 28; refine (l1Num_any 8 lv _ (by omega) (by omega) (by omega)).mono ?_; rintro e w1 ⟨rfl, hb1⟩)); rename_i hH; obtain ⟨hb1, hcl1⟩ := hH; have hz1 := hb1.size; (try simp at hz1); (try (have hly1 := Nat.lt_of_succ_le hz1)); (try (have hlx1 := Nat.lt_of_succ_lt hly1)); (try (have hlw1 := Nat.lt_of_succ_lt hlx1)); (try (have hle1 := Nat.le_of_lt hly1)); (try (have hya1 : w.heap.size < w1.heap.size := by omega)); (try (have hyb1 : w.heap.size + 1 < w1.heap.size := by omega)); (try (have hyc1 : w.heap.size + 1 + 1 < w1.heap.size := by omega)); (try (have hyd1 : wa.heap.size < w1.heap.size := by omega))
        all_goals
          go_wp2
          go_roundw
          case rel => exact ⟨i + 1, by omega, by go_num, by rw [e.out], (by repeat (first | exact Below.refl _ _ | assumption | refine Below.drew ?_ | refine below_drewN ?_ _ | refine Below.alloc' ?_ _ | (refine Below.setCell ?_ (by first | omega | (simp; done) | (simp; omega) | exact Below.size (by assumption) | exact Nat.le_trans (Below.size (by assumption)) (by simp)) _) | (refine Below.via' ?_ (by assumption)) | (refine Below.alloc ?_ (by first | omega | (simp; done) | (simp; omega) | exact Below.size (by assumption) | exact Nat.le_trans (Below.size (by assumption)) (by simp)) _) | (refine Below.via ?_ (by assumption) (by first | omega | (simp; done) | (simp; omega) | exact Below.size (by assumption) | exact Nat.le_trans (Below.size (by assumption)) (by simp)))))⟩
          case measure => simp [intOf]; omega
    · have hij : i = S.length := by omega
      subst hij
      clear hS
      go_wp2
      go_ret
      exact ⟨ret_str (by rw [List.take_length]), hb⟩

/-- What is answered. -/
def stR (S : List (ByteArray × Int)) : ByteArray := if schB S then stT S else ⟨#[]⟩
theorem ret_ss {a b : ByteArray} {p q : Bool} (h : a = b) (k : p = q) : Ending.returned (.tuple #[.string a, .bool p]) = .returned (.tuple #[.string b, .bool q]) := by rw [h, k]
theorem sST_x (x : Option Addr) (cap : Nat) (S : List (ByteArray × Int)) (w : World) (h : SIn w x cap S) :
    Calls Tryd.prog 6 #[.slice x S.length cap] w fun e w' => e = .returned (.tuple #[.string (stR S), .bool (schB S)]) ∧ Below w.heap.size w w' := by
  have hh := Lib.hid h
  clear h
  cases hs : schB S
  · have hv := Lib.hid (show stR S = ⟨#[]⟩ by unfold stR; rw [hs]; rfl)
    go_enter Tryd.func6, Tryd.ntmps6
    go_wp2_with (go_at_call 15; refine (sGood_x _ _ _ _ hh.out).mono ?_; rintro e w1 ⟨rfl, hb1⟩; obtain ⟨hcl1, hfr1⟩ := bcell hb1; have hz1 := hb1.size; (try simp at hz1); (try (have hly1 := Nat.lt_of_succ_le hz1)); (try (have hlx1 := Nat.lt_of_succ_lt hly1)); (try (have hlw1 := Nat.lt_of_succ_lt hlx1)); (try (have hle1 := Nat.le_of_lt hly1)); (try (have hya1 : w.heap.size < w1.heap.size := by omega)); (try (have hyb1 : w.heap.size + 1 < w1.heap.size := by omega)); (try (have hyc1 : w.heap.size + 1 + 1 < w1.heap.size := by omega)); (try (have hyd1 : wa.heap.size < w1.heap.size := by omega)))
    go_ret2
    exact ⟨ret_ss hv.out.symm rfl, (by repeat (first | exact Below.refl _ _ | assumption | refine Below.drew ?_ | refine below_drewN ?_ _ | refine Below.alloc' ?_ _ | (refine Below.setCell ?_ (by first | omega | (simp; done) | (simp; omega) | exact Below.size (by assumption) | exact Nat.le_trans (Below.size (by assumption)) (by simp)) _) | (refine Below.via' ?_ (by assumption)) | (refine Below.alloc ?_ (by first | omega | (simp; done) | (simp; omega) | exact Below.size (by assumption) | exact Nat.le_trans (Below.size (by assumption)) (by simp)) _) | (refine Below.via ?_ (by assumption) (by first | omega | (simp; done) | (simp; omega) | exact Below.size (by assumption) | exact Nat.le_trans (Below.size (by assumption)) (by simp)))))⟩
  · have hv := Lib.hid (show stR S = stT S by unfold stR; rw [hs]; rfl)
    go_enter Tryd.func6, Tryd.ntmps6
    go_wp2_with (first | (go_at_call 15; refine (sGood_x _ _ _ _ hh.out).mono ?_; rintro e w1 ⟨rfl, hb1⟩; obtain ⟨hcl1, hfr1⟩ := bcell hb1; have hz1 := hb1.size; (try simp at hz1); (try (have hly1 := Nat.lt_of_succ_le hz1)); (try (have hlx1 := Nat.lt_of_succ_lt hly1)); (try (have hlw1 := Nat.lt_of_succ_lt hlx1)); (try (have hle1 := Nat.le_of_lt hly1)); (try (have hya1 : w.heap.size < w1.heap.size := by omega)); (try (have hyb1 : w.heap.size + 1 < w1.heap.size := by omega)); (try (have hyc1 : w.heap.size + 1 + 1 < w1.heap.size := by omega)); (try (have hyd1 : wa.heap.size < w1.heap.size := by omega))) | (go_at_call 16; refine (sText_any _ _ _ _ hs (hh.out.rd.below (by assumption))).mono ?_; rintro e w2 ⟨rfl, hb2⟩; obtain ⟨hcl2, hfr2⟩ := bcell hb2; have hz2 := hb2.size; (try simp at hz2); (try (have hly2 := Nat.lt_of_succ_le hz2)); (try (have hlx2 := Nat.lt_of_succ_lt hly2)); (try (have hlw2 := Nat.lt_of_succ_lt hlx2)); (try (have hle2 := Nat.le_of_lt hly2)); (try (have hya2 : w.heap.size < w2.heap.size := by omega)); (try (have hyb2 : w.heap.size + 1 < w2.heap.size := by omega)); (try (have hyc2 : w.heap.size + 1 + 1 < w2.heap.size := by omega)); (try (have hyd2 : wa.heap.size < w2.heap.size := by omega))))
    go_ret2
    exact ⟨ret_ss hv.out.symm rfl, (by repeat (first | exact Below.refl _ _ | assumption | refine Below.drew ?_ | refine below_drewN ?_ _ | refine Below.alloc' ?_ _ | (refine Below.setCell ?_ (by first | omega | (simp; done) | (simp; omega) | exact Below.size (by assumption) | exact Nat.le_trans (Below.size (by assumption)) (by simp)) _) | (refine Below.via' ?_ (by assumption)) | (refine Below.alloc ?_ (by first | omega | (simp; done) | (simp; omega) | exact Below.size (by assumption) | exact Nat.le_trans (Below.size (by assumption)) (by simp)) _) | (refine Below.via ?_ (by assumption) (by first | omega | (simp; done) | (simp; omega) | exact Below.size (by assumption) | exact Nat.le_trans (Below.size (by assumption)) (by simp)))))⟩

theorem itoa_small (n : Int) (w : World) (h0 : 0 ≤ n) (h1 : n < 100) :
    Calls Tryd.prog 19 #[.int .i64 n] w fun e w' => e = .returned (.string (numZ n)) ∧ w' = w := by
  have := Tryd.strconv_Itoa_small n.toNat (by omega) w
  rw [show ((n.toNat : Nat) : Int) = n by omega] at this
  exact this

theorem own_put {w : World} {base e g n cap : Nat} {xs : List Value} (h : w.ownsRow base e 1 (.slice (some ⟨g, 0, none⟩) n cap) n xs) (i : Nat) (V : Value) (o : Obj) :
    (((w.setCell ⟨g, i, none⟩ V).alloc o).drew).ownsRow base e 1 (.slice (some ⟨g, 0, none⟩) n cap) n (xs.set i V) := own_below (h.stored i V).1 (((Below.refl _ _).alloc (Nat.le_refl _) o).drew)
theorem below_put {w wr : World} (h : Below w.heap.size w wr) {g : Nat} (hg : w.heap.size ≤ g) (i : Nat) (V : Value) (o : Obj) : Below w.heap.size w (((wr.setCell ⟨g, i, none⟩ V).alloc o).drew) := by
  have h1 := h.setCell (p := ⟨g, i, none⟩) hg V
  exact (h1.alloc h1.size o).drew
theorem stT_join (S : List (ByteArray × Int)) : (⟨(Lib.join ((S.map vaT).map (·.data.toList)) (⟨#[44]⟩ : ByteArray).data.toList).toArray⟩ : ByteArray) = stT S := by
  unfold stT
  rw [List.map_map]
  rfl
theorem join_x (bk : Nat) (S : List (ByteArray × Int)) (w : World) (hs : schB S = true) (hr : Rd w (some ⟨bk, 0, none⟩) (tC (S.map vaT))) :
    Calls Tryd.prog 20 #[.slice (some ⟨bk, 0, none⟩) S.length S.length, .string ⟨#[44]⟩] w fun e w' => e = .returned (.string (stT S)) ∧ Below w.heap.size w w' := by
  have hl : (S.map vaT).length = S.length := by simp
  obtain ⟨h1, h2⟩ := schB_len hs
  have hsz := stT_size hs S.length (Nat.le_refl _)
  rw [List.take_length] at hsz
  rcases hr with h | ⟨b, off, e, hb, hc⟩
  · have := congrArg List.length h
    simp [tC] at this
    subst this
    simp at h1
  injection e with e
  injection e with e1 e2
  subst e1 e2
  have hj := Tryd.strings_Join bk 0 S.length (S.map vaT) ⟨#[44]⟩ w (fun j t hj => hc j _ (by unfold tC; rw [List.getElem?_map, hj]; rfl)) hb (by omega) (by omega) (by
    have := congrArg ByteArray.size (stT_join S)
    simp only [ByteArray.size, List.size_toArray] at this hsz ⊢
    omega)
  rw [stT_join, hl] at hj
  exact hj

set_option maxHeartbeats 1000000 in
theorem iST_x (x : Option Addr) (cap : Nat) (S : List (ByteArray × Int)) (w : World) (h : SIn w x cap S) :
    Calls Tryd.prog 8 #[.slice x S.length cap] w fun e w' => e = .returned (.tuple #[.string (stR S), .bool (schB S)]) ∧ Below w.heap.size w w' := by
  have hh := Lib.hid h
  clear h
  cases hs : schB S
  · have hv := Lib.hid (show stR S = ⟨#[]⟩ by unfold stR; rw [hs]; rfl)
    go_enter Tryd.func8, Tryd.ntmps8
    go_wp2_with (go_at_call 18; refine (isSch_x _ _ _ _ hh.out).mono ?_; rintro e w1 ⟨rfl, hb1⟩; obtain ⟨hcl1, hfr1⟩ := bcell hb1; have hz1 := hb1.size; (try simp at hz1); (try (have hly1 := Nat.lt_of_succ_le hz1)); (try (have hlx1 := Nat.lt_of_succ_lt hly1)); (try (have hlw1 := Nat.lt_of_succ_lt hlx1)); (try (have hle1 := Nat.le_of_lt hly1)); (try (have hya1 : w.heap.size < w1.heap.size := by omega)); (try (have hyb1 : w.heap.size + 1 < w1.heap.size := by omega)); (try (have hyc1 : w.heap.size + 1 + 1 < w1.heap.size := by omega)); (try (have hyd1 : wa.heap.size < w1.heap.size := by omega)))
    go_ret2
    exact ⟨ret_ss hv.out.symm rfl, (by repeat (first | exact Below.refl _ _ | assumption | refine Below.drew ?_ | refine below_drewN ?_ _ | refine Below.alloc' ?_ _ | (refine Below.setCell ?_ (by first | omega | (simp; done) | (simp; omega) | exact Below.size (by assumption) | exact Nat.le_trans (Below.size (by assumption)) (by simp)) _) | (refine Below.via' ?_ (by assumption)) | (refine Below.alloc ?_ (by first | omega | (simp; done) | (simp; omega) | exact Below.size (by assumption) | exact Nat.le_trans (Below.size (by assumption)) (by simp)) _) | (refine Below.via ?_ (by assumption) (by first | omega | (simp; done) | (simp; omega) | exact Below.size (by assumption) | exact Nat.le_trans (Below.size (by assumption)) (by simp)))))⟩
  have hv := Lib.hid (show stR S = stT S by unfold stR; rw [hs]; rfl)
  obtain ⟨hm1, hm2⟩ := schB_len hs
  obtain ⟨i0, hi, hz0, hz1, hz2⟩ := info_parts Tryd.infoStr
  have hbb : i0.bytes * S.length ≤ 281474976710656 := by rw [hz2]; omega
  have hmm : S.length ≤ maxLen := by unfold maxLen; omega
  go_enter Tryd.func8, Tryd.ntmps8
  go_wp2_with fail
  refine (isSch_x _ _ _ _ hh.out).mono ?_
  rintro e w1 ⟨rfl, hb1⟩
  have hz1' := hb1.size
  go_wp2_with (at_make; go_loud (refine wpList_make_full _ rfl _ _ 41 rfl w1.heap.size 9 i0 (.string ⟨#[]⟩) 1 Tryd.underlying41 hi hz0 hz1 .i64 .i64 _ _ S.length rfl rfl rfl rfl hbb hmm (Nat.le_refl _) (fun w2 hown hgrow => ?_)))
  have hb2 : Below w1.heap.size w1 w2 := (Below.refl _ _).grown hgrow (Nat.le_refl _) (by intro k hk; cases hk)
  have hb3 : Below w.heap.size w w2 := hb1.trans (hb2.mono hz1')
  clear hgrow hi hz0 hz1 hz2 hbb hmm
  have hs := Lib.hid hs
  go_loopw [15] (fun c wr => ∃ (i : Nat) (xs : List Value), i ≤ S.length ∧ c = .int .i64 i ∧ wr.ownsRow w1.heap.size 9 1 (.slice (some ⟨w1.heap.size, 0, none⟩) S.length S.length) S.length xs ∧ Hid (∀ j, j < i → xs[j]? = (tC (S.map vaT))[j]?) ∧ Below w.heap.size w wr) (fun c _ => S.length - (intOf c).toNat)
  case atStart => exact ⟨0, _, by omega, rfl, hown, (fun j hj => absurd hj (by omega)), hb3⟩
  case round =>
    clear hown hb1 hb2 hb3
    obtain ⟨i, xs, hi, rfl, hown, hdone, hb⟩ := hrel
    by_cases hlt : i < S.length
    · obtain ⟨bl, off, nm, lv, rfl, hbl, hSi, hc0, hc1⟩ := (hh.out.rd.below hb).var hlt
      obtain ⟨z1, z2, z3, z4, z5⟩ := sch_bits hs.out hSi
      replace z5 := Lib.hid z5
      obtain ⟨u, hu, k0⟩ := own_cell hown (j := i) (by omega)
      have k2 := hown.frozenAt i
      have k4 := (own_lt hown).2
      replace hu := Lib.hid hu
      replace hSi := Lib.hid hSi
      have hlt' : (i : Int) < (S.length : Int) := by omega
      have hi0 : (0 : Int) ≤ (i : Int) := by omega
      have s0 : (⟨#[58]⟩ : ByteArray).size = 1 := rfl
      have hs1 : ¬ 9223372036854775807 < nm.size + (⟨#[58]⟩ : ByteArray).size := by rw [s0]; omega
      have hs2 : ¬ 9223372036854775807 < (nm ++ ⟨#[58]⟩).size + (numZ lv).size := by rw [ByteArray.size_append, s0, z4]; omega
      have hs3 : ¬ 9223372036854775807 < nm.size + 1 := by omega
      have hs4 : ¬ 9223372036854775807 < nm.size + 1 + (numZ lv).size := by rw [z4]; omega
      clear s0 z4
      go_wp2_with fail
      go_region_with (first | (go_at_call 19; refine (itoa_small _ _ (by omega) (by omega)).mono ?_; rintro e w5 ⟨rfl, rfl⟩))
      all_goals
        go_wp2
        go_roundw
        case rel =>
          refine ⟨i + 1, xs.set i (.string (nm ++ ⟨#[58]⟩ ++ numZ lv)), by omega, by go_num, ?_, ?_, ?_⟩
          · have hx := own_put hown i (.string (nm ++ ⟨#[58]⟩ ++ numZ lv)) (.cells #[.string nm, .int .i64 lv] 39)
            exact hx
          · intro j hj
            rw [List.getElem?_set]
            have hlen : xs.length = S.length := by rw [hown.1]; omega
            split
            · subst_vars
              rw [if_pos (by omega), z5.out]
              unfold tC
              rw [List.getElem?_map, List.getElem?_map, hSi.out]
              rfl
            · exact hdone.out j (by omega)
          · have hx := below_put hb hz1' i (.string (nm ++ ⟨#[58]⟩ ++ numZ lv)) (.cells #[.string nm, .int .i64 lv] 39)
            exact hx
        case measure => simp [intOf]; omega
    · have hij : i = S.length := by omega
      subst hij
      have hxs : xs = tC (S.map vaT) := by
        have hlen : xs.length = S.length := by rw [hown.1]; omega
        apply List.ext_getElem?
        intro j
        rcases Nat.lt_or_ge j S.length with hj | hj
        · exact hdone.out j hj
        · rw [List.getElem?_eq_none (by omega), List.getElem?_eq_none (by unfold tC; simp; omega)]
      subst hxs
      replace hown := Lib.hid hown
      clear hdone
      go_wp2_with fail
      refine (join_x w1.heap.size S _ hs.out (Rd.of_own hown.out)).mono ?_
      rintro e w6 ⟨rfl, hb6⟩
      go_wp2_with fail
      go_ret2
      exact ⟨ret_ss hv.out.symm rfl, (by repeat (first | exact Below.refl _ _ | assumption | refine Below.drew ?_ | refine below_drewN ?_ _ | refine Below.alloc' ?_ _ | (refine Below.setCell ?_ (by first | omega | (simp; done) | (simp; omega) | exact Below.size (by assumption) | exact Nat.le_trans (Below.size (by assumption)) (by simp)) _) | (refine Below.via' ?_ (by assumption)) | (refine Below.alloc ?_ (by first | omega | (simp; done) | (simp; omega) | exact Below.size (by assumption) | exact Nat.le_trans (Below.size (by assumption)) (by simp)) _) | (refine Below.via ?_ (by assumption) (by first | omega | (simp; done) | (simp; omega) | exact Below.size (by assumption) | exact Nat.le_trans (Below.size (by assumption)) (by simp)))))⟩
end Go.Proofs.YtbglogaljjfnnaaDoor
