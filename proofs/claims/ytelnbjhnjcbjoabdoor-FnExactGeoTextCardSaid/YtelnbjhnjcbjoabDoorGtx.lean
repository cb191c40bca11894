/-
  Plain mathematics of chapter 4: texts of geographies; how long they are. No program's text.
-/
import Derived.Test.YtelnbjhnjcbjoabDoorGeo
import Derived.Test.YtelnbjhnjcbjoabDoorText
import Derived.Lib.Join
namespace Go.Proofs.YtelnbjhnjcbjoabDoor
open Go.RowKit

/-- Texts with blanks between them. -/
def jnT (L : List ByteArray) : ByteArray := ⟨(Lib.join (L.map (·.data.toList)) [32]).toArray⟩
theorem jt_snoc (s y : List UInt8) (r : List (List UInt8)) : Lib.joinTail s (r ++ [y]) = Lib.joinTail s r ++ s ++ y := by
  unfold Lib.joinTail
  rw [List.map_append, List.flatten_append]
  simp
theorem jt_cons (b : UInt8) (y : List UInt8) (r : List (List UInt8)) : Lib.joinTail [b] (y :: r) = b :: (y ++ Lib.joinTail [b] r) := by simp [Lib.joinTail]
theorem ba_len (a : ByteArray) : a.data.toList.length = a.size := Array.length_toList
theorem jnT_one (t : ByteArray) : jnT [t] = t := by
  unfold jnT
  rw [List.map_cons, List.map_nil, Lib.join_one]
theorem jnT_snoc {L : List ByteArray} (h : L ≠ []) (t : ByteArray) : jnT (L ++ [t]) = jnT L ++ ⟨#[32]⟩ ++ t := by
  obtain ⟨a, r, rfl⟩ := List.exists_cons_of_ne_nil h
  unfold jnT
  rw [List.cons_append, List.map_cons, List.map_cons, List.map_append, Lib.join_cons, Lib.join_cons, List.map_cons, List.map_nil, jt_snoc]
  apply ByteArray.ext
  simp
theorem jnT_len : ∀ L : List ByteArray, L ≠ [] → (jnT L).size + 1 = (L.map fun t => t.size + 1).sum := by
  intro L
  have key : ∀ r : List ByteArray, (Lib.joinTail [32] (r.map (·.data.toList))).length = (r.map fun t => t.size + 1).sum := by
    intro r
    induction r with
    | nil => simp [Lib.joinTail]
    | cons a r ih =>
      rw [List.map_cons, jt_cons, List.length_cons, List.length_append, ih, List.map_cons, List.sum_cons, ba_len]
      omega
  intro h
  obtain ⟨a, r, rfl⟩ := List.exists_cons_of_ne_nil h
  have e : (jnT (a :: r)).size = (Lib.join ((a :: r).map (·.data.toList)) [32]).length := List.size_toArray ..
  rw [e, List.map_cons, Lib.join_cons, List.length_append, key, List.map_cons, List.sum_cons, ba_len]
  omega
/-- The text of an area. -/
def gtF (P : List Int) : Nat → Nat → ByteArray
  | 0, _ => ⟨#[]⟩
  | k + 1, i => if (awL P i).length = 0 then numZ i else numZ i ++ ⟨#[40]⟩ ++ jnT ((awL P i).map fun c => gtF P k c.toNat) ++ ⟨#[41]⟩
theorem gt_leaf {P : List Int} {k i : Nat} (h : (awL P i).length = 0) : gtF P (k + 1) i = numZ i := if_pos h
theorem gt_node {P : List Int} {k i : Nat} (h : (awL P i).length ≠ 0) : gtF P (k + 1) i = numZ i ++ ⟨#[40]⟩ ++ jnT ((awL P i).map fun c => gtF P k c.toNat) ++ ⟨#[41]⟩ := if_neg h

theorem aw_child {P : List Int} (hg : geB P = true) {i : Nat} {c : Int} (h : c ∈ awL P i) : ∃ k : Nat, c = (k : Int) ∧ k < P.length ∧ i < k ∧ P[k]? = some (i : Int) := by
  obtain ⟨k, rfl, hk, hp⟩ := sel_mem.1 h
  unfold eqP at hp
  rw [decide_eq_true_eq] at hp
  refine ⟨k, rfl, hk, ?_, hp⟩
  rcases Nat.eq_zero_or_pos k with e | e
  · subst e
    rw [ge_zero hg] at hp
    injection hp with hp
    omega
  · obtain ⟨p, h1, h2⟩ := ge_par hg e hk
    rw [hp] at h1
    injection h1 with h1
    omega

/-- How many areas have an area on their path. -/
def stN (P : List Int) (i : Nat) : Nat := ((List.range P.length).map fun j => if (i : Int) ∈ ptL P j then 1 else 0).sum
theorem sum_le {α : Type} {f g : α → Nat} : ∀ {L : List α}, (∀ x ∈ L, f x ≤ g x) → (L.map f).sum ≤ (L.map g).sum
  | [], _ => Nat.le_refl _
  | a :: r, h => by
    have h1 := h a (by simp)
    have h2 := sum_le (L := r) (fun x hx => h x (List.mem_cons_of_mem _ hx))
    simp only [List.map_cons, List.sum_cons]
    omega
theorem sum_add {α : Type} {f g : α → Nat} : ∀ L : List α, (L.map fun x => f x + g x).sum = (L.map f).sum + (L.map g).sum
  | [] => rfl
  | a :: r => by
    have := sum_add (f := f) (g := g) r
    simp only [List.map_cons, List.sum_cons]
    omega
theorem sum_zero {α : Type} : ∀ L : List α, (L.map fun _ => 0).sum = 0
  | [] => rfl
  | a :: r => by
    have := sum_zero r
    simp only [List.map_cons, List.sum_cons]
    omega
theorem sum_swap {α β : Type} {f : α → β → Nat} (L : List α) : ∀ C : List β, (L.map fun x => (C.map fun c => f x c).sum).sum = (C.map fun c => (L.map fun x => f x c).sum).sum
  | [] => by simp only [List.map_nil, List.sum_nil]; exact sum_zero L
  | c :: r => by
    have := sum_swap (f := f) L r
    simp only [List.map_cons, List.sum_cons]
    rw [sum_add, this]
theorem st_le (P : List Int) (i : Nat) : stN P i ≤ P.length := by
  have h : stN P i ≤ ((List.range P.length).map fun _ => 1).sum := sum_le (fun x _ => by split <;> omega)
  have : ∀ n, ((List.range n).map fun _ => 1).sum = n := by
    intro n
    induction n with
    | zero => rfl
    | succ n ih => rw [List.range_succ, List.map_append, List.sum_append, ih]; rfl
  rw [this] at h
  exact h
theorem sum_one {i n : Nat} (h : i < n) : ((List.range n).map fun j => if j = i then 1 else 0).sum = 1 := by
  induction n with
  | zero => omega
  | succ n ih =>
    rw [List.range_succ, List.map_append, List.sum_append, List.map_cons, List.map_nil, List.sum_cons, List.sum_nil]
    by_cases e : n = i
    · subst e
      rw [if_pos rfl]
      have : ((List.range n).map fun j => if j = n then 1 else 0).sum ≤ ((List.range n).map fun _ => 0).sum := sum_le (fun x hx => by rw [if_neg (by have := List.mem_range.1 hx; omega)]; exact Nat.le_refl _)
      rw [sum_zero] at this
      omega
    · rw [if_neg e, ih (by omega)]; rfl
theorem sum_uniq {C : List Int} (hn : C.Nodup) {p : Int → Prop} [DecidablePred p] (hu : ∀ a ∈ C, ∀ b ∈ C, p a → p b → a = b) : (C.map fun c => if p c then 1 else 0).sum ≤ 1 := by
  induction C with
  | nil => simp
  | cons a r ih =>
    rw [List.nodup_cons] at hn
    simp only [List.map_cons, List.sum_cons]
    by_cases ha : p a
    · have : (r.map fun c => if p c then 1 else 0).sum ≤ (r.map fun _ => 0).sum := sum_le (fun x hx => by
        by_cases hp : p x
        · exact absurd (hu a (by simp) x (List.mem_cons_of_mem _ hx) ha hp) (fun e => hn.1 (e ▸ hx))
        · rw [if_neg hp]; exact Nat.le_refl _)
      rw [sum_zero] at this
      rw [if_pos ha]
      omega
    · rw [if_neg ha]
      have := ih hn.2 (fun x hx y hy => hu x (List.mem_cons_of_mem _ hx) y (List.mem_cons_of_mem _ hy))
      omega
theorem sum_none {C : List Int} {p : Int → Prop} [DecidablePred p] (hu : ∀ a ∈ C, ¬ p a) : (C.map fun c => if p c then 1 else 0).sum = 0 := by
  have : (C.map fun c => if p c then 1 else 0).sum ≤ (C.map fun _ => 0).sum := sum_le (fun x hx => by rw [if_neg (hu x hx)]; exact Nat.le_refl _)
  rw [sum_zero] at this
  omega
theorem aw_nodup (L : List Int) (n : Int) : (awL L n).Nodup := by
  unfold awL selK
  have h : ((List.range L.length).filter (eqP L n)).Nodup := List.nodup_range.sublist List.filter_sublist
  have inj : ∀ M : List Nat, M.Nodup → (M.map fun i : Nat => (i : Int)).Nodup := by
    intro M hM
    induction M with
    | nil => simp
    | cons a r ih =>
      rw [List.nodup_cons] at hM
      rw [List.map_cons, List.nodup_cons]
      refine ⟨fun hm => ?_, ih hM.2⟩
      obtain ⟨b, hb, e⟩ := List.mem_map.1 hm
      have : b = a := by omega
      exact hM.1 (this ▸ hb)
  exact inj _ h
theorem pt_pos {P : List Int} (hg : geB P = true) {c : Nat} : ∀ j, j < P.length → (c : Int) ∈ ptL P j → (ptL P j)[dpN P c]? = some (c : Int) := by
  intro j hj
  refine ge_ind hg (Q := fun j => (c : Int) ∈ ptL P j → (ptL P j)[dpN P c]? = some (c : Int)) ?_ (fun j p _ h1 h2 ih => ?_) j hj
  · intro h
    rw [pt_zero] at h
    simp at h
    have : c = 0 := by omega
    subst this
    exact pt_last P
  · intro h
    rw [pt_step h1 h2, List.mem_append] at h
    rcases h with h | h
    · have := ih h
      rw [pt_step h1 h2, List.getElem?_append_left (List.getElem?_eq_some_iff.1 this).1]
      exact this
    · simp at h
      have : c = j := by omega
      subst this
      exact pt_last P
theorem pt_up {P : List Int} (hg : geB P = true) {c i : Nat} (hc : P[c]? = some (i : Int)) (hic : i < c) : ∀ j, j < P.length → (c : Int) ∈ ptL P j → (i : Int) ∈ ptL P j := by
  intro j hj
  refine ge_ind hg (Q := fun j => (c : Int) ∈ ptL P j → (i : Int) ∈ ptL P j) ?_ (fun j p _ h1 h2 ih => ?_) j hj
  · intro h
    rw [pt_zero] at h
    simp at h
    omega
  · intro h
    rw [pt_step h1 h2, List.mem_append] at h ⊢
    rcases h with h | h
    · exact Or.inl (ih h)
    · simp at h
      have : c = j := by omega
      subst this
      rw [h1] at hc
      injection hc with hc
      have : p = i := by omega
      subst this
      exact Or.inl (List.mem_of_getElem? (pt_last P))
theorem st_kids {P : List Int} (hg : geB P = true) {i : Nat} (hi : i < P.length) : ((awL P i).map fun c => stN P c.toNat).sum + 1 ≤ stN P i := by
  have e : ((awL P i).map fun c => stN P c.toNat).sum = ((List.range P.length).map fun j => ((awL P i).map fun c => if ((c.toNat : Nat) : Int) ∈ ptL P j then 1 else 0).sum).sum := by
    unfold stN
    rw [sum_swap]
  rw [e]
  have h1 := sum_one hi
  have h2 : ((List.range P.length).map fun j => ((awL P i).map fun c => if ((c.toNat : Nat) : Int) ∈ ptL P j then 1 else 0).sum + if j = i then 1 else 0).sum ≤ stN P i := ?_
  · rw [sum_add, h1] at h2
    exact h2
  unfold stN
  refine sum_le fun j hj => ?_
  have hjl := List.mem_range.1 hj
  by_cases hji : j = i
  · subst hji
    rw [if_pos rfl, if_pos (List.mem_of_getElem? (pt_last P)), sum_none (p := fun c => ((c.toNat : Nat) : Int) ∈ ptL P j)]
    · exact Nat.le_refl _
    · intro c hc hm
      obtain ⟨k, rfl, hk, hik, _⟩ := aw_child hg hc
      have := (pt_mem hg hjl _ hm).2
      omega
  · rw [if_neg hji, Nat.add_zero]
    by_cases hq : (i : Int) ∈ ptL P j
    · rw [if_pos hq]
      refine sum_uniq (aw_nodup P i) (p := fun c => ((c.toNat : Nat) : Int) ∈ ptL P j) (fun a ha b hb h1 h2 => ?_)
      obtain ⟨k, rfl, hk, hik, hp⟩ := aw_child hg ha
      obtain ⟨l, rfl, hl, hil, hp2⟩ := aw_child hg hb
      rw [Int.toNat_natCast] at h1 h2
      have e1 := pt_pos hg j hjl h1
      have e2 := pt_pos hg j hjl h2
      rw [dp_step hp hik] at e1
      rw [dp_step hp2 hil] at e2
      rw [e1] at e2
      injection e2
    · rw [if_neg hq, sum_none (p := fun c => ((c.toNat : Nat) : Int) ∈ ptL P j)]
      · exact Nat.le_refl _
      · intro c hc hm
        obtain ⟨k, rfl, hk, hik, hp⟩ := aw_child hg hc
        rw [Int.toNat_natCast] at hm
        exact hq (pt_up hg hp hik j hjl hm)
theorem numZ_two {i : Nat} (h : i < 100) : 1 ≤ (numZ i).size ∧ (numZ i).size ≤ 2 := by
  by_cases h1 : i < 10
  · rw [numZ_small (by omega) (by omega), byteT_len]; omega
  · rw [numZ_big (by omega), numZ_small (by omega) (by omega), ByteArray.size_append, byteT_len, byteT_len]; omega
/-- Texts are short. -/
theorem gt_size {P : List Int} (hg : geB P = true) : ∀ k i, i < P.length → P.length - i ≤ k → (gtF P k i).size + 1 ≤ 6 * stN P i := by
  have hl := ge_len hg
  intro k
  induction k with
  | zero => intro i hi hk; omega
  | succ k ih =>
    intro i hi hk
    have hs := st_kids hg hi
    have hn := (numZ_two (i := i) (by omega)).2
    by_cases h0 : (awL P i).length = 0
    · rw [gt_leaf h0]; omega
    · rw [gt_node h0, ByteArray.size_append, ByteArray.size_append, ByteArray.size_append, show (⟨#[40]⟩ : ByteArray).size = 1 from rfl, show (⟨#[41]⟩ : ByteArray).size = 1 from rfl]
      have hne : ((awL P i).map fun c => gtF P k c.toNat) ≠ [] := fun e => h0 (by have := congrArg List.length e; simpa using this)
      have hj := jnT_len _ hne
      rw [List.map_map] at hj
      have hle : ((awL P i).map ((fun t => t.size + 1) ∘ fun c => gtF P k c.toNat)).sum ≤ ((awL P i).map fun c => 6 * stN P c.toNat).sum := sum_le fun c hc => by
        obtain ⟨m, rfl, hm, him, _⟩ := aw_child hg hc
        rw [Int.toNat_natCast]
        have := ih m hm (by omega)
        simpa using this
      have hmul : ∀ L : List Int, (L.map fun c => 6 * stN P c.toNat).sum = 6 * (L.map fun c => stN P c.toNat).sum := by
        intro L
        induction L with
        | nil => rfl
        | cons a r ih => simp only [List.map_cons, List.sum_cons, ih]; omega
      rw [hmul] at hle
      omega
theorem gt_bd {P : List Int} (hg : geB P = true) {k i : Nat} (hi : i < P.length) (hk : P.length - i ≤ k) : (gtF P k i).size ≤ 200 := by
  have h1 := gt_size hg k i hi hk
  have h2 := st_le P i
  have h3 := (ge_len hg).2
  omega
end Go.Proofs.YtelnbjhnjcbjoabDoor
