/-
  Plain mathematics of texts: a string split at a byte, in the program's way and in the model's; numbers that are read. No program's text.
-/
import Derived.Test.YtcmfoclalcmamabGreatDoorRd
import Derived.Lib.Join
import Derived.Lib.Split
import Derived.Lib.AtoiAll
import Derived.Lib.Itoa
import Derived.Lib.ItoaNum
import Derived.Lib.AtoiAllCases
namespace Go.Proofs.YtcmfoclalcmamabGreatDoor
open Go.RowKit

/-- The model's loop after i bytes: what is split off, and where the next piece begins. -/
def spS (s : ByteArray) (b : UInt8) : Nat → List ByteArray × Nat
  | 0 => ([], 0)
  | i + 1 => if s.data.toList[i]? = some b then ((spS s b i).1 ++ [s.extract (spS s b i).2 i], i + 1) else spS s b i
/-- All pieces. -/
def spL (s : ByteArray) (b : UInt8) : List ByteArray := (spS s b s.size).1 ++ [s.extract (spS s b s.size).2 s.size]
theorem spS_le (s : ByteArray) (b : UInt8) : ∀ i, (spS s b i).2 ≤ i ∧ (spS s b i).1.length ≤ i
  | 0 => ⟨Nat.le_refl _, Nat.le_refl _⟩
  | i + 1 => by
    have := spS_le s b i
    unfold spS
    split
    · simp; omega
    · omega
theorem spL_len (s : ByteArray) (b : UInt8) : 1 ≤ (spL s b).length ∧ (spL s b).length ≤ s.size + 1 := by
  have := spS_le s b s.size
  unfold spL
  simp
  omega
/-- The same over lists: what remains, and the piece that is begun. -/
def spR (b : UInt8) : List UInt8 → List UInt8 → List (List UInt8)
  | [], cur => [cur]
  | c :: r, cur => if c = b then cur :: spR b r [] else spR b r (cur ++ [c])
theorem ext_list (s : ByteArray) (a e : Nat) : (s.extract a e).data.toList = (s.data.toList.take e).drop a := by
  rw [ByteArray.data_extract, Array.toList_extract, List.extract_eq_take_drop, List.drop_take]
theorem spS_inv (s : ByteArray) (b : UInt8) : ∀ i, i ≤ s.size → ((spS s b i).1.map (·.data.toList)) ++ spR b (s.data.toList.drop i) ((s.data.toList.take i).drop (spS s b i).2) = spR b s.data.toList []
  | 0, _ => by simp [spS]
  | i + 1, h => by
    have ih := spS_inv s b i (by omega)
    have hle := (spS_le s b i).1
    have hl : i < s.data.toList.length := by rw [show s.data.toList.length = s.size by simp]; omega
    have e0 : s.data.toList.drop i = s.data.toList[i] :: s.data.toList.drop (i + 1) := List.drop_eq_getElem_cons hl
    have e1 : s.data.toList.take (i + 1) = s.data.toList.take i ++ [s.data.toList[i]] := by rw [List.take_succ_eq_append_getElem hl]
    have e2 : s.data.toList[i]? = some s.data.toList[i] := List.getElem?_eq_getElem hl
    rw [e0] at ih
    rw [← ih]
    by_cases hc : s.data.toList[i] = b
    · have e3 : spS s b (i + 1) = ((spS s b i).1 ++ [s.extract (spS s b i).2 i], i + 1) := by
        rw [spS, if_pos (by rw [e2, hc])]
      rw [e3, spR, if_pos hc]
      have e4 : (s.data.toList.take (i + 1)).drop (i + 1) = [] := by
        apply List.drop_eq_nil_of_le
        rw [List.length_take]
        omega
      simp only [e4, List.map_append, List.map_cons, List.map_nil, ext_list, List.append_assoc, List.singleton_append]
    · have e3 : spS s b (i + 1) = spS s b i := by
        rw [spS, if_neg]
        rw [e2]
        intro h
        injection h with h
        exact hc h
      rw [e3, spR, if_neg hc, e1, List.drop_append_of_le_length (by rw [List.length_take]; omega)]
theorem spL_list (s : ByteArray) (b : UInt8) : (spL s b).map (·.data.toList) = spR b s.data.toList [] := by
  have h := spS_inv s b s.size (Nat.le_refl _)
  have e : s.data.toList.length = s.size := by simp
  rw [← h, List.drop_eq_nil_of_le (by omega), spR, spL, List.map_append, List.map_cons, List.map_nil, ext_list]
theorem spR_piece {b : UInt8} : ∀ (x r cur : List UInt8), b ∉ x → spR b (x ++ b :: r) cur = (cur ++ x) :: spR b r []
  | [], r, cur, _ => by simp [spR]
  | c :: x, r, cur, h => by
    have h1 : c ≠ b := fun e => h (by simp [e])
    have h2 : b ∉ x := fun e => h (by simp [e])
    rw [List.cons_append, spR, if_neg h1, spR_piece x r _ h2, List.append_assoc, List.singleton_append]
theorem spR_last {b : UInt8} : ∀ (x cur : List UInt8), b ∉ x → spR b x cur = [cur ++ x]
  | [], cur, _ => by simp [spR]
  | c :: x, cur, h => by
    have h1 : c ≠ b := fun e => h (by simp [e])
    have h2 : b ∉ x := fun e => h (by simp [e])
    rw [spR, if_neg h1, spR_last x _ h2, List.append_assoc, List.singleton_append]
theorem tail_cons (b : UInt8) (y : List UInt8) (r : List (List UInt8)) : Lib.joinTail [b] (y :: r) = b :: (y ++ Lib.joinTail [b] r) := by simp [Lib.joinTail]
theorem spR_join {b : UInt8} : ∀ (r : List (List UInt8)) (x : List UInt8), (∀ y ∈ x :: r, b ∉ y) → spR b (x ++ Lib.joinTail [b] r) [] = x :: r
  | [], x, h => by
    rw [show Lib.joinTail [b] [] = [] from rfl, List.append_nil, spR_last _ _ (h x (by simp)), List.nil_append]
  | y :: r, x, h => by
    rw [tail_cons, spR_piece _ _ _ (h x (by simp)), List.nil_append, spR_join r y (fun z hz => h z (List.mem_cons_of_mem _ hz))]
theorem bytes_inj : ∀ {A B : List ByteArray}, A.map (·.data.toList) = B.map (·.data.toList) → A = B := by
  intro A B h
  exact List.map_inj_right (fun a b e => by
    cases a with | mk x => cases b with | mk y =>
    simp at e
    rw [e]) |>.1 h
/-- Pieces with a byte between them are split into these pieces: the model's way. -/
theorem spL_join {b : UInt8} {s : ByteArray} {x : ByteArray} {r : List ByteArray} (hs : s.data.toList = Lib.join ((x :: r).map (·.data.toList)) [b]) (h : ∀ y ∈ x :: r, b ∉ y.data.toList) : spL s b = x :: r := by
  apply bytes_inj
  rw [spL_list, hs, List.map_cons, Lib.join_cons, spR_join]
  intro y hy
  have hy' : y ∈ (x :: r).map (·.data.toList) := hy
  obtain ⟨z, hz, rfl⟩ := List.mem_map.1 hy'
  exact h z hz

theorem index_miss {b : UInt8} : ∀ (x : List UInt8), b ∉ x → Lib.index x [b] = -1
  | [], _ => rfl
  | c :: x, h => by
    have h1 : b ≠ c := fun e => h (by simp [e])
    have h2 : b ∉ x := fun e => h (by simp [e])
    have := index_miss x h2
    unfold Lib.index
    rw [this]
    simp [List.isPrefixOf, h1]
theorem index_hit {b : UInt8} : ∀ (x r : List UInt8), b ∉ x → Lib.index (x ++ b :: r) [b] = (x.length : Int)
  | [], r, _ => by
    unfold Lib.index
    simp [List.isPrefixOf]
  | c :: x, r, h => by
    have h1 : b ≠ c := fun e => h (by simp [e])
    have h2 : b ∉ x := fun e => h (by simp [e])
    have := index_hit x r h2
    rw [List.cons_append]
    unfold Lib.index
    rw [this]
    have h3 : ¬ ((x.length : Int) = -1) := by omega
    simp [List.isPrefixOf, h1, h3]
theorem splitK_join {b : UInt8} : ∀ (r : List (List UInt8)) (x : List UInt8) (k : Nat), r.length ≤ k → (∀ y ∈ x :: r, b ∉ y) → Lib.splitK [b] 0 k (x ++ Lib.joinTail [b] r) = x :: r
  | [], x, k, _, h => by
    rw [show Lib.joinTail [b] [] = [] from rfl, List.append_nil]
    cases k with
    | zero => rfl
    | succ k =>
      unfold Lib.splitK
      rw [index_miss x (h x (by simp)), if_pos (by decide)]
  | y :: r, x, k, hk, h => by
    obtain ⟨k, rfl⟩ : ∃ j, k = j + 1 := ⟨k - 1, by simp at hk; omega⟩
    rw [tail_cons]
    unfold Lib.splitK
    have hi := index_hit x (y ++ Lib.joinTail [b] r) (h x (by simp))
    have h3 : ¬ (((x.length : Int) == -1) = true) := by
      rw [beq_iff_eq]
      omega
    rw [hi, if_neg h3]
    have e : ((x.length : Int)).toNat = x.length := by omega
    rw [e, Nat.add_zero]
    have e1 : (x ++ b :: (y ++ Lib.joinTail [b] r)).take x.length = x := List.take_left
    have e2 : (x ++ b :: (y ++ Lib.joinTail [b] r)).drop (x.length + [b].length) = y ++ Lib.joinTail [b] r := by
      rw [List.length_singleton, ← List.drop_drop, List.drop_left]
      rfl
    rw [e1, e2, splitK_join r y k (by simp at hk; omega) (fun z hz => h z (List.mem_cons_of_mem _ hz))]
/-- The same, the program's way. -/
theorem splitB_join {b : UInt8} {s : ByteArray} {x : ByteArray} {r : List ByteArray} {k : Nat} (hk : r.length ≤ k) (hs : s.data.toList = Lib.join ((x :: r).map (·.data.toList)) [b]) (h : ∀ y ∈ x :: r, b ∉ y.data.toList) : Lib.splitB ⟨#[b]⟩ 0 k s = x :: r := by
  apply bytes_inj
  rw [Lib.splitB_data, hs, List.map_cons, Lib.join_cons]
  exact splitK_join _ _ _ (by simpa using hk) (fun y hy => by
    have hy' : y ∈ (x :: r).map (·.data.toList) := hy
    obtain ⟨z, hz, rfl⟩ := List.mem_map.1 hy'
    exact h z hz)
theorem cut_hit {b : UInt8} (x r : List UInt8) (h : b ∉ x) : Lib.cut (x ++ b :: r) [b] = (x, r, true) := by
  unfold Lib.cut
  rw [index_hit x r h, if_pos (by omega), show ((x.length : Int)).toNat = x.length by omega, List.take_left, List.length_singleton, ← List.drop_drop, List.drop_left]
  rfl
theorem cut_miss {b : UInt8} (x : List UInt8) (h : b ∉ x) : Lib.cut x [b] = (x, [], false) := by
  unfold Lib.cut
  rw [index_miss x h, if_neg (by omega)]

/-- A digit; the number that digits spell. -/
def dgB (c : UInt8) : Bool := decide (48 ≤ c.toNat) && decide (c.toNat ≤ 57)
def dgV (l : List UInt8) : Nat := l.foldl (fun n c => 10 * n + (c.toNat - 48)) 0
theorem dgB_iff (c : UInt8) : dgB c = true ↔ 48 ≤ c.toNat ∧ c.toNat ≤ 57 := by unfold dgB; simp
theorem dgV_snoc (l : List UInt8) (c : UInt8) : dgV (l ++ [c]) = 10 * dgV l + (c.toNat - 48) := by unfold dgV; rw [List.foldl_append]; rfl
theorem dec_big {u : Nat} (h : ¬ u < 10) : Lib.decDigits u = Lib.decDigits (u / 10) ++ [UInt8.ofNat (48 + u % 10)] := by rw [Lib.decDigits, dif_neg h]
theorem digit_nat {k : Nat} (h : k < 10) : (UInt8.ofNat (48 + k)).toNat = 48 + k := by simp; omega
theorem dec_dig : ∀ (u : Nat), ∀ c ∈ Lib.decDigits u, dgB c = true
  | u => by
    by_cases h : u < 10
    · rw [Lib.decDigits_one h]
      intro c hc
      simp only [List.mem_singleton] at hc
      subst hc
      rw [dgB_iff, digit_nat h]
      omega
    · rw [dec_big h]
      intro c hc
      rcases List.mem_append.1 hc with hc | hc
      · exact dec_dig (u / 10) c hc
      · simp only [List.mem_singleton] at hc
        subst hc
        rw [dgB_iff, digit_nat (by omega)]
        omega
termination_by u => u
decreasing_by omega
theorem dec_val : ∀ (u : Nat), dgV (Lib.decDigits u) = u
  | u => by
    by_cases h : u < 10
    · rw [Lib.decDigits_one h]
      unfold dgV
      simp only [List.foldl_cons, List.foldl_nil]
      rw [digit_nat h]
      omega
    · rw [dec_big h, dgV_snoc, dec_val (u / 10), digit_nat (by omega)]
      omega
termination_by u => u
decreasing_by omega
theorem parse_snoc : ∀ (l : List UInt8) (a m : Nat) (c : UInt8), Lib.parseUint10 a l = .ok m → dgB c = true → m < 1844674407370955161 → Lib.parseUint10 a (l ++ [c]) = .ok (m * 10 + (c.toNat - 48))
  | [], a, m, c, h, hc, hm => by
    simp only [Lib.parseUint10] at h
    injection h with h
    subst h
    have := (dgB_iff c).1 hc
    simp only [List.nil_append, Lib.parseUint10]
    rw [if_pos this, if_neg (by omega), if_neg (by omega)]
  | d :: l, a, m, c, h, hc, hm => by
    simp only [Lib.parseUint10] at h
    simp only [List.cons_append, Lib.parseUint10]
    split at h
    · rename_i h1
      rw [if_pos h1]
      split at h
      · cases h
      · rename_i h2
        rw [if_neg h2]
        split at h
        · cases h
        · rename_i h3
          rw [if_neg h3]
          exact parse_snoc l _ m c h hc hm
    · cases h
theorem parse_dec : ∀ (u : Nat), u < 1000000000000000000 → Lib.parseUint10 0 (Lib.decDigits u) = .ok u
  | u => by
    intro hu
    by_cases h : u < 10
    · rw [Lib.decDigits_one h]
      have e := digit_nat h
      simp only [Lib.parseUint10]
      rw [e, if_pos (by omega), if_neg (by omega), if_neg (by omega)]
      congr 1
      omega
    · rw [dec_big h, parse_snoc _ 0 (u / 10) _ (parse_dec (u / 10) (by omega)) (by rw [dgB_iff, digit_nat (by omega)]; omega) (by omega), digit_nat (by omega)]
      congr 1
      omega
termination_by u => u
decreasing_by omega
theorem dec_ne (u : Nat) : ∃ c r, Lib.decDigits u = c :: r ∧ dgB c = true := by
  cases h : Lib.decDigits u with
  | nil =>
    have := Lib.decDigits_length u
    rw [h] at this
    have h1 := Lib.nDigits_pos u
    simp at this
    omega
  | cons c r => exact ⟨c, r, rfl, dec_dig u c (by rw [h]; simp)⟩
/-- What is written is read back. -/
theorem atoi_itoa (n : Int) (h1 : -1000000000000000000 < n) (h2 : n < 1000000000000000000) : Lib.atoiAll (Lib.itoa n) = .ok n := by
  unfold Lib.itoa
  obtain ⟨c, r, e, hc⟩ := dec_ne n.natAbs
  have hd := (dgB_iff c).1 hc
  have hp := parse_dec n.natAbs (by omega)
  have hm : Lib.parseMag (c :: r) = .ok n.natAbs := by
    unfold Lib.parseMag
    rw [if_neg (by simp), ← e, hp]
  by_cases h : n < 0
  · rw [if_pos h, Lib.atoiAll_minus, e, hm]
    simp only [Lib.signed]
    rw [if_neg (by omega)]
    congr 1
    omega
  · rw [if_neg h, show n.toNat = n.natAbs by omega, e, Lib.atoiAll_plain c r (by omega) (by omega), hm]
    simp only [Lib.signless]
    rw [if_neg (by omega)]
    congr 1
    omega
end Go.Proofs.YtcmfoclalcmamabGreatDoor
