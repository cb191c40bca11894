import Derived.Test.YtmcibcechffppaaPnR
import Derived.Test.YtmcibcechffppaaPnT
import Derived.WalkMore
import Derived.OwnWalk
namespace Go.Proofs.Ytmcibcechffppaa
open Go.RowKit
set_option maxRecDepth 100000

/-- The lesser of two numbers; the least weight of some variables, from a number on. -/
def lezZ (a b : Int) : Int := if a < b then a else b
theorem lez_yes {a b : Int} (h : a < b) : lezZ a b = a := if_pos h
theorem lez_no {a b : Int} (h : ¬ a < b) : lezZ a b = b := if_neg h
def lwF (W : List Int) (b : Int) (L : List Int) : Int := L.foldl (fun b v => lezZ b (W[v.toNat]?.getD 0)) b
theorem lwF_snoc (W : List Int) (b : Int) (L : List Int) (v : Int) : lwF W b (L ++ [v]) = lezZ (lwF W b L) (W[v.toNat]?.getD 0) := by unfold lwF; rw [List.foldl_append]; rfl
theorem lwF_step {W L : List Int} {b : Int} {i n : Nat} {a : Int} (hi : L[i]? = some (n : Int)) (ha : W[n]? = some a) : lezZ (lwF W b (L.take i)) a = lwF W b (L.take (i + 1)) := by
  rw [take_snoc hi, lwF_snoc, Int.toNat_natCast, ha]; rfl
theorem lwF_bd {W : List Int} (hw : ∀ a ∈ W, 0 ≤ a) : ∀ (L : List Int) (b : Int), 0 ≤ b → 0 ≤ lwF W b L ∧ lwF W b L ≤ b
  | [], b, h => ⟨h, Int.le_refl _⟩
  | v :: L, b, h => by
    have h1 : 0 ≤ W[v.toNat]?.getD 0 := by
      cases e : W[v.toNat]? with
      | none => exact Int.le_refl _
      | some a => exact hw a (List.mem_of_getElem? e)
    have h2 : 0 ≤ lezZ b (W[v.toNat]?.getD 0) ∧ lezZ b (W[v.toNat]?.getD 0) ≤ b := by
      unfold lezZ
      split
      · exact ⟨h, Int.le_refl _⟩
      · exact ⟨h1, by omega⟩
    have h3 := lwF_bd hw L _ h2.1
    unfold lwF at h3 ⊢
    rw [List.foldl_cons]
    exact ⟨h3.1, by omega⟩
def lwZ (W L : List Int) : Int := lwF W 100 L
theorem lw_first {W L : List Int} {n : Nat} {a : Int} (hL : L[0]? = some (n : Int)) (ha : W[n]? = some a) (hb : a ≤ 100) : lwF W a L = lwZ W L := by
  cases L with
  | nil => cases hL
  | cons v r =>
    have hv : v = (n : Int) := Option.some.inj hL
    subst hv
    unfold lwZ lwF
    rw [List.foldl_cons, List.foldl_cons, Int.toNat_natCast, ha]
    congr 1
    unfold lezZ
    dsimp only [Option.getD]
    rw [if_neg (by omega)]
    by_cases h : (100 : Int) < a
    · omega
    · rw [if_neg h]
/-- The set of some variables as a number. -/
def mkN (L : List Int) : Nat := L.foldl (fun m v => m ||| 2 ^ v.toNat) 0
theorem mkF_bit (i : Nat) : ∀ (L : List Int) (m : Nat), (L.foldl (fun m v => m ||| 2 ^ v.toNat) m).testBit i = (m.testBit i || L.any fun v => decide (v.toNat = i))
  | [], m => by simp
  | v :: L, m => by
    rw [List.foldl_cons, mkF_bit i L, Nat.testBit_or, Nat.testBit_two_pow, List.any_cons, Bool.or_assoc]
theorem mk_bit (L : List Int) (i : Nat) : (mkN L).testBit i = L.any fun v => decide (v.toNat = i) := by
  unfold mkN
  rw [mkF_bit, Nat.zero_testBit, Bool.false_or]
theorem mk_snoc (L : List Int) (v : Int) : mkN (L ++ [v]) = mkN L ||| 2 ^ v.toNat := by unfold mkN; rw [List.foldl_append]; rfl
theorem mk_app (A B : List Int) : mkN (A ++ B) = mkN A ||| mkN B := by
  apply Nat.eq_of_testBit_eq
  intro i
  rw [Nat.testBit_or, mk_bit, mk_bit, mk_bit, List.any_append]
theorem mkF_lt {k : Nat} : ∀ (L : List Int) (m : Nat), m < 2 ^ k → (∀ v ∈ L, v.toNat < k) → L.foldl (fun m v => m ||| 2 ^ v.toNat) m < 2 ^ k
  | [], m, h, _ => h
  | v :: L, m, h, hv => by
    rw [List.foldl_cons]
    exact mkF_lt L _ (Nat.or_lt_two_pow h (Nat.pow_lt_pow_right (by decide) (hv v (List.mem_cons_self ..)))) fun u hu => hv u (List.mem_cons_of_mem _ hu)
theorem mk_lt {k : Nat} {L : List Int} (h : ∀ v ∈ L, v.toNat < k) : mkN L < 2 ^ k := mkF_lt L 0 (Nat.two_pow_pos k) h
theorem mk_share {A B : List Int} (hA : ∀ v ∈ A, 0 ≤ v) (hB : ∀ v ∈ B, 0 ≤ v) : (mkN B &&& mkN A = 0) ↔ shB A B = false := by
  constructor
  · intro h
    refine sh_none fun j v hv => ?_
    have hm := List.mem_of_getElem? hv
    cases hc : B.contains v
    · rfl
    · exfalso
      have hcm : v ∈ B := by simpa using hc
      have hbit : (mkN B &&& mkN A).testBit v.toNat = true := by
        rw [Nat.testBit_and, mk_bit, mk_bit, Bool.and_eq_true, List.any_eq_true, List.any_eq_true]
        exact ⟨⟨v, hcm, by simp⟩, ⟨v, hm, by simp⟩⟩
      rw [h, Nat.zero_testBit] at hbit
      cases hbit
  · intro h
    apply Nat.eq_of_testBit_eq
    intro i
    rw [Nat.zero_testBit, Nat.testBit_and, mk_bit, mk_bit]
    cases h1 : A.any fun v => decide (v.toNat = i)
    · rw [Bool.and_false]
    · cases h2 : B.any fun v => decide (v.toNat = i)
      · rfl
      · exfalso
        rw [List.any_eq_true] at h1 h2
        obtain ⟨v, hv, e1⟩ := h1
        obtain ⟨u, hu, e2⟩ := h2
        have e1 := of_decide_eq_true e1
        have e2 := of_decide_eq_true e2
        have huv : u = v := by have := hA v hv; have := hB u hu; omega
        subst huv
        unfold shB at h
        rw [List.any_eq_false] at h
        exact h u hv (by simpa using hu)
/-- The state of a packing after some of the sets: apart, used, sum, chosen. -/
structure PkS where
  a : Bool
  u : List Int
  s : Int
  l : List Int
def ivk (Iv : List (List Int)) (k : Int) : List Int := Iv[k.toNat]?.getD []
def pkStep (W : List Int) (Iv : List (List Int)) (K : List Int) (q : PkS) (k : Int) : PkS := ⟨q.a && !shB (ivk Iv k) q.u, q.u ++ ivk Iv k, q.s + lwZ W (ivk Iv k), q.l ++ [K[k.toNat]?.getD 0]⟩
def pkF (W : List Int) (Iv : List (List Int)) (K : List Int) (ks : List Int) : PkS := ks.foldl (pkStep W Iv K) ⟨true, [], 0, []⟩
theorem pk_snoc (W : List Int) (Iv : List (List Int)) (K : List Int) (ks : List Int) (k : Int) : pkF W Iv K (ks ++ [k]) = pkStep W Iv K (pkF W Iv K ks) k := by unfold pkF; rw [List.foldl_append]; rfl
theorem pk_dead {W : List Int} {Iv : List (List Int)} {K : List Int} (ks : List Int) (h : (pkF W Iv K ks).a = false) : ∀ r, (pkF W Iv K (ks ++ r)).a = false := by
  intro r
  unfold pkF at h ⊢
  rw [List.foldl_append]
  generalize ks.foldl (pkStep W Iv K) ⟨true, [], 0, []⟩ = q at h
  induction r generalizing q with
  | nil => exact h
  | cons k r ih =>
    rw [List.foldl_cons]
    exact ih _ (by unfold pkStep; rw [h]; rfl)
/-- Good lists: of variables below 6. -/
def GdI (n : Nat) (Iv : List (List Int)) : Prop := Iv.length = n ∧ ∀ L ∈ Iv, L.length ≤ 6 ∧ ∀ v ∈ L, 0 ≤ v ∧ v.toNat < 6
theorem gd_ivk {n : Nat} {Iv : List (List Int)} (h : GdI n Iv) (k : Int) : (ivk Iv k).length ≤ 6 ∧ ∀ v ∈ ivk Iv k, 0 ≤ v ∧ v.toNat < 6 := by
  unfold ivk
  cases e : Iv[k.toNat]? with
  | none => exact ⟨by simp, fun v hv => by cases hv⟩
  | some L => exact h.2 L (List.mem_of_getElem? e)
structure PkB (q : PkS) (m : Nat) : Prop where
  u1 : q.u.length ≤ 6 * m
  u2 : ∀ v ∈ q.u, 0 ≤ v ∧ v.toNat < 6
  s0 : 0 ≤ q.s
  s1 : q.s ≤ 100 * (m : Int)
  l1 : q.l.length = m
theorem pk_bd {W : List Int} {Iv : List (List Int)} {K : List Int} {n : Nat} (hw : ∀ a ∈ W, 0 ≤ a) (h : GdI n Iv) : ∀ (m : Nat) (ks : List Int), ks.length = m → PkB (pkF W Iv K ks) m
  | 0, ks, e => by
    have : ks = [] := List.eq_nil_of_length_eq_zero e
    subst this
    exact ⟨by simp [pkF], (fun v hv => by simp [pkF] at hv), by simp [pkF], by simp [pkF], by simp [pkF]⟩
  | m + 1, ks, e => by
    obtain ⟨r, k, rfl⟩ : ∃ r k, ks = r ++ [k] := by
      have hne : ks ≠ [] := by intro h0; rw [h0] at e; cases e
      exact ⟨ks.dropLast, ks.getLast hne, (List.dropLast_concat_getLast hne).symm⟩
    have hr : r.length = m := by simpa using e
    have ih := pk_bd (K := K) hw h m r hr
    have g := gd_ivk h k
    have b := lwF_bd hw (ivk Iv k) 100 (by omega)
    have hs0 := ih.s0
    have hs1 := ih.s1
    rw [pk_snoc]
    unfold pkStep lwZ
    refine ⟨?_, ?_, ?_, ?_, ?_⟩
    · show (_ ++ _ : List Int).length ≤ _
      rw [List.length_append]; have := ih.u1; omega
    · intro v hv
      rcases List.mem_append.1 hv with h1 | h1
      · exact ih.u2 v h1
      · exact g.2 v h1
    · show (0 : Int) ≤ _ + _
      omega
    · show _ + _ ≤ 100 * ((m + 1 : Nat) : Int)
      push_cast; omega
    · show (_ ++ _ : List Int).length = _
      rw [List.length_append, ih.l1]; rfl
/-- The best packing among the first sets: its sum and its number. -/
def bbF (W : List Int) (Iv : List (List Int)) (K : List Int) (n : Nat) : Nat → Int × Nat
  | 0 => (0, 0)
  | st + 1 => if ((pkF W Iv K (lvsUp (st : Int) n)).a && decide ((bbF W Iv K n st).1 < (pkF W Iv K (lvsUp (st : Int) n)).s)) = true then ((pkF W Iv K (lvsUp (st : Int) n)).s, st) else bbF W Iv K n st
theorem bb_yes {W : List Int} {Iv : List (List Int)} {K : List Int} {n st : Nat} (h : (pkF W Iv K (lvsUp (st : Int) n)).a = true) (k : (bbF W Iv K n st).1 < (pkF W Iv K (lvsUp (st : Int) n)).s) : bbF W Iv K n (st + 1) = ((pkF W Iv K (lvsUp (st : Int) n)).s, st) := by
  show (if _ then _ else _) = _
  rw [if_pos (by rw [h, decide_eq_true k]; rfl)]
theorem bb_no1 {W : List Int} {Iv : List (List Int)} {K : List Int} {n st : Nat} (h : (pkF W Iv K (lvsUp (st : Int) n)).a = false) : bbF W Iv K n (st + 1) = bbF W Iv K n st := by
  show (if _ then _ else _) = _
  rw [if_neg (by rw [h]; exact Bool.false_ne_true)]
theorem bb_no2 {W : List Int} {Iv : List (List Int)} {K : List Int} {n st : Nat} (k : ¬ (bbF W Iv K n st).1 < (pkF W Iv K (lvsUp (st : Int) n)).s) : bbF W Iv K n (st + 1) = bbF W Iv K n st := by
  show (if _ then _ else _) = _
  rw [if_neg (by rw [decide_eq_false k, Bool.and_false]; exact Bool.false_ne_true)]
theorem bb_bd {W : List Int} {Iv : List (List Int)} {K : List Int} {n : Nat} (hw : ∀ a ∈ W, 0 ≤ a) (h : GdI n Iv) (hn : n ≤ 12) : ∀ st, 0 ≤ (bbF W Iv K n st).1 ∧ (bbF W Iv K n st).1 ≤ 1200 ∧ (bbF W Iv K n st).2 ≤ st
  | 0 => ⟨by simp [bbF], by simp [bbF], by simp [bbF]⟩
  | st + 1 => by
    have ih := bb_bd hw h hn (K := K) st
    have b := pk_bd (K := K) hw h _ (lvsUp (st : Int) n) rfl
    have hl := lvsUp_len (st : Int) n
    have s0 := b.s0
    have s1 := b.s1
    cases ha : (pkF W Iv K (lvsUp (st : Int) n)).a
    · rw [bb_no1 ha]; exact ⟨ih.1, ih.2.1, by omega⟩
    · by_cases hk : (bbF W Iv K n st).1 < (pkF W Iv K (lvsUp (st : Int) n)).s
      · rw [bb_yes ha hk]; exact ⟨s0, by show (pkF W Iv K (lvsUp (st : Int) n)).s ≤ 1200; omega, by show st ≤ st + 1; omega⟩
      · rw [bb_no2 hk]; exact ⟨ih.1, ih.2.1, by omega⟩
/-- What PackingBound answers. -/
def pbX (S : List (ByteArray × Int)) (M : List (List Int)) : List (List Int) := mxL S M (-1)
def pbI (S : List (ByteArray × Int)) (X : List (List Int)) (V : List Int) : List (List Int) := (feL X V).map fun k => ivL S (X[k.toNat]?.getD [])
def pbG (S : List (ByteArray × Int)) (M : List (List Int)) (W V : List Int) : Bool := cmB S M W V && (decide ((feL (mxL S M (-1)) V).length ≤ 12) && (pbI S (mxL S M (-1)) V).all fun L => decide (0 < L.length))
def pbN (S : List (ByteArray × Int)) (M : List (List Int)) (W V : List Int) : Int × Nat := bbF W (pbI S (mxL S M (-1)) V) (feL (mxL S M (-1)) V) (feL (mxL S M (-1)) V).length (2 ^ (feL (mxL S M (-1)) V).length)
def pbZ (S : List (ByteArray × Int)) (M : List (List Int)) (W V : List Int) : Int := if pbG S M W V = true then (pbN S M W V).1 else 0
def pbL (S : List (ByteArray × Int)) (M : List (List Int)) (W V : List Int) : List Int := if pbG S M W V = true then (pkF W (pbI S (mxL S M (-1)) V) (feL (mxL S M (-1)) V) (lvsUp ((pbN S M W V).2 : Int) (feL (mxL S M (-1)) V).length)).l else []
theorem pb_no {S : List (ByteArray × Int)} {M : List (List Int)} {W V : List Int} (h : pbG S M W V = false) : pbZ S M W V = 0 ∧ pbL S M W V = [] := by
  unfold pbZ pbL
  rw [h]
  exact ⟨rfl, rfl⟩
theorem pb_yes {S : List (ByteArray × Int)} {M : List (List Int)} {W V : List Int} (h : pbG S M W V = true) : pbZ S M W V = (pbN S M W V).1 ∧ pbL S M W V = (pkF W (pbI S (mxL S M (-1)) V) (feL (mxL S M (-1)) V) (lvsUp ((pbN S M W V).2 : Int) (feL (mxL S M (-1)) V).length)).l := by
  unfold pbZ pbL
  rw [h]
  exact ⟨rfl, rfl⟩
theorem pg_no1 {S : List (ByteArray × Int)} {M : List (List Int)} {W V : List Int} (h : cmB S M W V = false) : pbG S M W V = false := by unfold pbG; rw [h]; rfl
theorem pg_no2 {S : List (ByteArray × Int)} {M : List (List Int)} {W V : List Int} (h : ¬ (feL (mxL S M (-1)) V).length ≤ 12) : pbG S M W V = false := by unfold pbG; rw [decide_eq_false h, Bool.false_and, Bool.and_false]
theorem pg_no3 {S : List (ByteArray × Int)} {M : List (List Int)} {W V : List Int} {i : Nat} {L : List Int} (h : (pbI S (mxL S M (-1)) V)[i]? = some L) (k : L.length = 0) : pbG S M W V = false := by
  unfold pbG
  have : ((pbI S (mxL S M (-1)) V).all fun L => decide (0 < L.length)) = false := by
    rw [List.all_eq_false]
    exact ⟨L, List.mem_of_getElem? h, by rw [decide_eq_false (by omega)]; exact Bool.false_ne_true⟩
  rw [this, Bool.and_false, Bool.and_false]
theorem pg_yes {S : List (ByteArray × Int)} {M : List (List Int)} {W V : List Int} (h1 : cmB S M W V = true) (h2 : (feL (mxL S M (-1)) V).length ≤ 12) (h3 : ∀ (i : Nat) (L : List Int), (pbI S (mxL S M (-1)) V)[i]? = some L → 0 < L.length) : pbG S M W V = true := by
  unfold pbG
  have : ((pbI S (mxL S M (-1)) V).all fun L => decide (0 < L.length)) = true := by
    rw [List.all_eq_true]
    intro L hL
    obtain ⟨i, hi, e⟩ := List.getElem_of_mem hL
    exact decide_eq_true (h3 i L (by rw [List.getElem?_eq_getElem hi, e]))
  rw [h1, decide_eq_true h2, this]
  rfl
theorem pbI_at {S : List (ByteArray × Int)} {X : List (List Int)} {V E : List Int} {i k : Nat} (hi : (feL X V)[i]? = some (k : Int)) (hk : X[k]? = some E) : (pbI S X V)[i]? = some (ivL S E) := by
  unfold pbI
  rw [List.getElem?_map, hi, Option.map_some, Int.toNat_natCast, hk]
  rfl
theorem pbI_len (S : List (ByteArray × Int)) (X : List (List Int)) (V : List Int) : (pbI S X V).length = (feL X V).length := by unfold pbI; rw [List.length_map]
theorem iv_gd {S : List (ByteArray × Int)} (h6 : S.length ≤ 6) (E : List Int) : (ivL S E).length ≤ 6 ∧ ∀ v ∈ ivL S E, 0 ≤ v ∧ v.toNat < 6 := by
  unfold ivL
  refine ⟨Nat.le_trans (pkUp_len _ _) h6, fun v hv => ?_⟩
  obtain ⟨k, rfl, hk, _⟩ := pkUp_mem hv
  exact ⟨by omega, by omega⟩
theorem pb_gd {S : List (ByteArray × Int)} (h6 : S.length ≤ 6) (X : List (List Int)) (V : List Int) : GdI (feL X V).length (pbI S X V) := by
  refine ⟨pbI_len S X V, fun L hL => ?_⟩
  unfold pbI at hL
  obtain ⟨k, _, rfl⟩ := List.mem_map.1 hL
  exact iv_gd h6 _
theorem pbL_len {S : List (ByteArray × Int)} {M : List (List Int)} {W V : List Int} : (pbL S M W V).length ≤ 12 := by
  cases h : pbG S M W V
  · rw [(pb_no h).2]; exact Nat.zero_le _
  · rw [(pb_yes h).2]
    have h0 := h
    unfold pbG at h0
    rw [Bool.and_eq_true, Bool.and_eq_true] at h0
    have h1 := of_decide_eq_true h0.2.1
    obtain ⟨k1, k2, k3⟩ := cm_get h0.1
    have h6 := (schB_len (el_get (sm_get k1).1).1).2
    have hl := lvsUp_len ((pbN S M W V).2 : Int) (feL (mxL S M (-1)) V).length
    have b : ∀ (ks : List Int), (pkF W (pbI S (mxL S M (-1)) V) (feL (mxL S M (-1)) V) ks).l.length = ks.length := by
      intro ks
      unfold pkF
      have : ∀ (q : PkS), (ks.foldl (pkStep W (pbI S (mxL S M (-1)) V) (feL (mxL S M (-1)) V)) q).l.length = q.l.length + ks.length := by
        induction ks with
        | nil => intro q; rfl
        | cons k r ih => intro q; rw [List.foldl_cons, ih]; simp [pkStep]; omega
      rw [this]
      simp
    rw [b]
    omega
end Go.Proofs.Ytmcibcechffppaa

namespace Go.Proofs.Ytmcibcechffppaa
open Go.RowKit
set_option maxRecDepth 100000

theorem lez_min (a b : Int) : min a b = lezZ a b := by unfold lezZ; split <;> omega
theorem wb_aside {w : World} {g : Nat} {t : TypeId} {cs : Array Value} (h : Wb w g t cs) (p : Addr) (hne : g ≠ p.block) (u : Value) : Wb (w.setCell p u) g t cs := (Below.heap_setCell _ _ _ _ hne).trans h
theorem wb_two {w : World} {g : Nat} {t : TypeId} {a b : Value} (h : Wb w g t #[a, b]) (u v : Value) : Wb ((w.setCell ⟨g, 0, none⟩ u).setCell ⟨g, 1, none⟩ v).drew.drew g t #[u, v] := (h.put 0 u).put 1 v
theorem pow_i64 {n : Nat} (h : n ≤ 61) : wrap64 (2 ^ n : Int) = ((2 ^ n : Nat) : Int) ∧ (2 ^ n : Nat) < 4611686018427387904 := by
  have h1 : (2 ^ n : Nat) < 4611686018427387904 := Nat.lt_of_lt_of_le (Nat.pow_lt_pow_right (by decide) (show n < 62 by omega)) (by decide)
  refine ⟨?_, h1⟩
  have e : (2 ^ n : Int) = ((2 ^ n : Nat) : Int) := (Int.natCast_pow 2 n).symm
  rw [e]
  generalize (2 ^ n : Nat) = p at h1
  exact IntWalk.wrap64_in _ (by omega)
theorem or_nat {a b : Nat} (ha : a < 64) (hb : b < 6) : bits .or .i64 (a : Int) (wrap64 (2 ^ b)) = ((a ||| 2 ^ b : Nat) : Int) := by
  rw [(pow_i64 (by omega)).1]
  exact or64 (by omega) (by have : 2 ^ b < 2 ^ 6 := Nat.pow_lt_pow_right (by decide) hb; omega)
set_option maxHeartbeats 2000000 in
theorem boundOf_any (x y : Option Addr) (c1 c2 : Nat) (W L : List Int) (w : World) (hw : ∀ a ∈ W, 1 ≤ a ∧ a ≤ 100) (hL : ∀ v ∈ L, ∃ n : Nat, v = (n : Int) ∧ n < W.length ∧ n < 6) (hWi : IIn w x W) (hLi : IIn w y L) :
    Calls Try.prog 78 #[.slice x W.length c1, .slice y L.length c2] w fun e w' => e = .returned (.agg #[.int .i64 (mkN L : Int), .int .i64 (lwZ W L)]) ∧ Below w.heap.size w w' := by
  have hWh := Lib.hid hWi
  have hLh := Lib.hid hLi
  have hLlen := hLi.1
  have hwh := Lib.hid hw
  have hmh := Lib.hid hL
  have b0 := (Wb.new w 94 #[.int .i64 0, .int .i64 0])
  have b1 := Wb.new (w.alloc (.cells #[.int .i64 0, .int .i64 0] 94)) 94 #[.int .i64 0, .int .i64 100]
  rw [World.size_alloc] at b1
  have b0' := b0.kept (show Below (w.alloc (.cells #[.int .i64 0, .int .i64 0] 94)).heap.size (w.alloc (.cells #[.int .i64 0, .int .i64 0] 94)) ((w.alloc (.cells #[.int .i64 0, .int .i64 0] 94)).alloc (.cells #[.int .i64 0, .int .i64 100] 94)) from (by repeat (first | exact Below.refl _ _ | assumption | refine Below.drew ?_ | refine below_drewN ?_ _ | refine Below.alloc' ?_ _ | (refine Below.setCell ?_ (by first | omega | (simp; done) | (simp; omega) | exact Below.size (by assumption) | exact Nat.le_trans (Below.size (by assumption)) (by simp)) _) | (refine Below.via' ?_ (by assumption)) | (refine Below.alloc ?_ (by first | omega | (simp; done) | (simp; omega) | exact Below.size (by assumption) | exact Nat.le_trans (Below.size (by assumption)) (by simp)) _) | (refine Below.via ?_ (by assumption) (by first | omega | (simp; done) | (simp; omega) | exact Below.size (by assumption) | exact Nat.le_trans (Below.size (by assumption)) (by simp))))))
  have b0h := Lib.hid b0'
  have b1h := Lib.hid b1
  clear hWi hLi hw hL b0 b1 b0'
  go_enter Try.func78, Try.ntmps78
  go_wp2
  go_loopw [11] (fun c wr => ∃ i : Nat, i ≤ L.length ∧ c = .int .i64 i ∧ Wb wr w.heap.size 94 #[.int .i64 0, .int .i64 0] ∧ Wb wr (w.heap.size + 1) 94 #[.int .i64 (mkN (L.take i) : Int), .int .i64 (lwF W 100 (L.take i))] ∧ Below w.heap.size w wr) (fun c _ => L.length - (intOf c).toNat)
  case atStart => exact ⟨0, by omega, rfl, b0h.out, b1h.out, (by repeat (first | exact Below.refl _ _ | assumption | refine Below.drew ?_ | refine below_drewN ?_ _ | refine Below.alloc' ?_ _ | (refine Below.setCell ?_ (by first | omega | (simp; done) | (simp; omega) | exact Below.size (by assumption) | exact Nat.le_trans (Below.size (by assumption)) (by simp)) _) | (refine Below.via' ?_ (by assumption)) | (refine Below.alloc ?_ (by first | omega | (simp; done) | (simp; omega) | exact Below.size (by assumption) | exact Nat.le_trans (Below.size (by assumption)) (by simp)) _) | (refine Below.via ?_ (by assumption) (by first | omega | (simp; done) | (simp; omega) | exact Below.size (by assumption) | exact Nat.le_trans (Below.size (by assumption)) (by simp)))))⟩
  case round =>
    clear b0h b1h
    obtain ⟨i, hi, rfl, z0, z1, hBr⟩ := hrel
    have z0h := Lib.hid z0
    have z1h := Lib.hid z1
    by_cases hlt : i < L.length
    · obtain ⟨bl, off, v, hyv, hbl, hLi, hc0⟩ := (hLh.out.below hBr).2.2.int hlt
      obtain ⟨n, rfl, hn1, hn2⟩ := hmh.out v (List.mem_of_getElem? hLi)
      obtain ⟨bl2, off2, a, hxv, hbl2, hWn, hc1w⟩ := hWh.out.2.2.int hn1
      have hc1 := (hBr.cell (p := ⟨bl2, off2 + n, none⟩) hbl2).trans hc1w
      have hne2 : bl2 ≠ w.heap.size + 1 := by omega
      subst hyv hxv
      have d0 : wr.cell? ⟨w.heap.size + 1, 0, none⟩ = some (.int .i64 (mkN (L.take i) : Int)) := z1.read 0
      have d1 : wr.cell? ⟨w.heap.size + 1, 1, none⟩ = some (.int .i64 (lwF W 100 (L.take i))) := z1.read 1
      have f0 := z1.free 0
      have f1 := z1.free 1
      have hin := z1.inside
      have hor := or_nat (a := mkN (L.take i)) (b := n) (mk_lt (k := 6) fun v hv => by obtain ⟨k, rfl, _, hk⟩ := hmh.out v (List.mem_of_mem_take hv); omega) hn2
      have hst1 := Lib.hid (show mkN (L.take i) ||| 2 ^ n = mkN (L.take (i + 1)) by rw [take_snoc hLi, mk_snoc, Int.toNat_natCast])
      have hst2 := Lib.hid (lwF_step (b := 100) hLi hWn)
      have hlt' : (i : Int) < (L.length : Int) := by omega
      have hi0 : (0 : Int) ≤ (i : Int) := by omega
      have hnW : (n : Int) < (W.length : Int) := by omega
      have hn0 : (0 : Int) ≤ (n : Int) := by omega
      have horh := Lib.hid hor
      clear hLi hWn z0 z1 hor
      go_wp2
      go_region
      all_goals
        go_wp2
        go_region
        all_goals
          go_wp2
          rw [horh.out, hst1.out, lez_min, hst2.out]
          go_roundw
          case rel => exact ⟨i + 1, by omega, by go_num, wb_aside (wb_aside z0h.out ⟨w.heap.size + 1, 0, none⟩ (by show w.heap.size ≠ w.heap.size + 1; omega) _) ⟨w.heap.size + 1, 1, none⟩ (by show w.heap.size ≠ w.heap.size + 1; omega) _, wb_two z1h.out _ _, (by repeat (first | exact Below.refl _ _ | assumption | refine Below.drew ?_ | refine below_drewN ?_ _ | refine Below.alloc' ?_ _ | (refine Below.setCell ?_ (by first | omega | (simp; done) | (simp; omega) | exact Below.size (by assumption) | exact Nat.le_trans (Below.size (by assumption)) (by simp)) _) | (refine Below.via' ?_ (by assumption)) | (refine Below.alloc ?_ (by first | omega | (simp; done) | (simp; omega) | exact Below.size (by assumption) | exact Nat.le_trans (Below.size (by assumption)) (by simp)) _) | (refine Below.via ?_ (by assumption) (by first | omega | (simp; done) | (simp; omega) | exact Below.size (by assumption) | exact Nat.le_trans (Below.size (by assumption)) (by simp)))))⟩
          case measure => simp [intOf]; omega
    · have hij : i = L.length := by omega
      subst hij
      have d0 : wr.cell? ⟨w.heap.size + 1, 0, none⟩ = some (.int .i64 (mkN L : Int)) := by have := z1.read 0; rw [List.take_length] at this; exact this
      have d1 : wr.cell? ⟨w.heap.size + 1, 1, none⟩ = some (.int .i64 (lwZ W L)) := by have := z1.read 1; rw [List.take_length] at this; exact this
      have r0 := z0.free 0
      have r1 := z0.free 1
      have rr0 := z0.read 0
      have rr1 := z0.read 1
      have hin := z0.inside
      go_wp2
      refine bodyPost_ret (v := .agg #[.int .i64 (mkN L : Int), .int .i64 (lwZ W L)]) (by simp [results, Try.results78, go_sem, *]) rfl ⟨rfl, ?_⟩
      exact (by repeat (first | exact Below.refl _ _ | assumption | refine Below.drew ?_ | refine below_drewN ?_ _ | refine Below.alloc' ?_ _ | (refine Below.setCell ?_ (by first | omega | (simp; done) | (simp; omega) | exact Below.size (by assumption) | exact Nat.le_trans (Below.size (by assumption)) (by simp)) _) | (refine Below.via' ?_ (by assumption)) | (refine Below.alloc ?_ (by first | omega | (simp; done) | (simp; omega) | exact Below.size (by assumption) | exact Nat.le_trans (Below.size (by assumption)) (by simp)) _) | (refine Below.via ?_ (by assumption) (by first | omega | (simp; done) | (simp; omega) | exact Below.size (by assumption) | exact Nat.le_trans (Below.size (by assumption)) (by simp)))))
end Go.Proofs.Ytmcibcechffppaa

namespace Go.Proofs.Ytmcibcechffppaa
open Go.RowKit
set_option maxRecDepth 100000

/-- The cells of a list of pairs of integers. -/
def bC : List (Int × Int) → List Value
  | [] => []
  | p :: r => .int .i64 p.1 :: .int .i64 p.2 :: bC r
theorem bC_len : ∀ S : List (Int × Int), (bC S).length = S.length * 2
  | [] => rfl
  | p :: r => by
    have := bC_len r
    simp only [bC, List.length_cons]
    omega
theorem bC_at0 : ∀ {S : List (Int × Int)} {i : Nat} {p : Int × Int}, S[i]? = some p → (bC S)[i * 2]? = some (.int .i64 p.1)
  | [], i, p, h => by simp at h
  | q :: r, 0, p, h => by simp at h; subst h; simp [bC]
  | q :: r, i + 1, p, h => by
    simp only [List.getElem?_cons_succ] at h
    rw [show (i + 1) * 2 = i * 2 + 1 + 1 by omega]
    simp only [bC, List.getElem?_cons_succ]
    exact bC_at0 h
theorem bC_at1 : ∀ {S : List (Int × Int)} {i : Nat} {p : Int × Int}, S[i]? = some p → (bC S)[i * 2 + 1]? = some (.int .i64 p.2)
  | [], i, p, h => by simp at h
  | q :: r, 0, p, h => by simp at h; subst h; simp [bC]
  | q :: r, i + 1, p, h => by
    simp only [List.getElem?_cons_succ] at h
    rw [show (i + 1) * 2 + 1 = i * 2 + 1 + 1 + 1 by omega]
    simp only [bC, List.getElem?_cons_succ]
    exact bC_at1 h
theorem bC_set : ∀ (S : List (Int × Int)) (i : Nat) (p : Int × Int), ((bC S).set (i * 2) (.int .i64 p.1)).set (i * 2 + 1) (.int .i64 p.2) = bC (S.set i p)
  | [], i, p => by simp [bC]
  | q :: r, 0, p => by simp [bC]
  | q :: r, i + 1, p => by
    rw [show (i + 1) * 2 = i * 2 + 1 + 1 by omega, show i * 2 + 1 + 1 + 1 = (i * 2 + 1) + 1 + 1 by omega]
    simp only [bC, List.set_cons_succ]
    rw [bC_set r i p]
theorem Rd.two {w : World} {x : Option Addr} {S : List (Int × Int)} {i : Nat} {a b : Int} (h : Rd w x (bC S)) (hi : S[i]? = some (a, b)) :
    ∃ bl off, x = some ⟨bl, off, none⟩ ∧ bl < w.heap.size ∧ w.cell? ⟨bl, off + i * 2, none⟩ = some (.int .i64 a) ∧ w.cell? ⟨bl, off + i * 2 + 1, none⟩ = some (.int .i64 b) := by
  rcases h with h | ⟨bl, off, e, hl, hc⟩
  · have := bC_at0 hi
    rw [h] at this
    cases this
  · exact ⟨bl, off, e, hl, hc _ _ (bC_at0 hi), hc _ _ (bC_at1 hi)⟩
/-- The bounded edits of some sets of variables. -/
def beL (W : List Int) (Iv : List (List Int)) : List (Int × Int) := Iv.map fun L => ((mkN L : Int), lwZ W L)
theorem be_at {W : List Int} {Iv : List (List Int)} {i : Nat} {L : List Int} (h : Iv[i]? = some L) : (beL W Iv)[i]? = some ((mkN L : Int), lwZ W L) := by unfold beL; rw [List.getElem?_map, h]; rfl
theorem be_len (W : List Int) (Iv : List (List Int)) : (beL W Iv).length = Iv.length := by unfold beL; rw [List.length_map]
theorem lvsUp_pre (x : Int) (i : Nat) : ∀ k, ∃ r, lvsUp x (i + k) = lvsUp x i ++ r
  | 0 => ⟨[], by simp⟩
  | k + 1 => by
    obtain ⟨r, e⟩ := lvsUp_pre x i k
    rw [← Nat.add_assoc]
    cases h : hsB x ((i + k : Nat) : Int)
    · exact ⟨r, by rw [lvsUp_no h, e]⟩
    · exact ⟨r ++ [((i + k : Nat) : Int)], by rw [lvsUp_yes h, e, List.append_assoc]⟩
/-- What a packing's sum is. -/
def qZ (q : PkS) : Int := if q.a = true then q.s else 0
theorem qZ_no {q : PkS} (h : q.a = false) : qZ q = 0 := by unfold qZ; rw [h]; rfl
theorem qZ_yes {q : PkS} (h : q.a = true) : qZ q = q.s := by unfold qZ; rw [h]; rfl
theorem ret_qz {q : PkS} {z : Int} {b : Bool} (h : qZ q = z) (k : q.a = b) : Ending.returned (.tuple #[.int .i64 z, .bool b]) = .returned (.tuple #[.int .i64 (qZ q), .bool q.a]) := by rw [h, k]
theorem ps_dead {W : List Int} {Iv : List (List Int)} {K : List Int} {x : Int} {i n : Nat} (hi : i + 1 ≤ n) (hb : hsB x i = true) (hs : shB (ivk Iv i) (pkF W Iv K (lvsUp x i)).u = true) : (pkF W Iv K (lvsUp x n)).a = false := by
  obtain ⟨r, e⟩ := lvsUp_pre x (i + 1) (n - (i + 1))
  rw [show i + 1 + (n - (i + 1)) = n by omega] at e
  rw [e]
  refine pk_dead _ ?_ r
  rw [lvsUp_yes hb, pk_snoc]
  unfold pkStep
  rw [hs]
  exact Bool.and_false _
theorem ps_on {W : List Int} {Iv : List (List Int)} {K : List Int} {x : Int} {i : Nat} (hb : hsB x i = true) (ha : (pkF W Iv K (lvsUp x i)).a = true) (hs : shB (ivk Iv i) (pkF W Iv K (lvsUp x i)).u = false) :
    (pkF W Iv K (lvsUp x (i + 1))).a = true ∧ (pkF W Iv K (lvsUp x (i + 1))).s = (pkF W Iv K (lvsUp x i)).s + lwZ W (ivk Iv i) ∧ mkN (pkF W Iv K (lvsUp x (i + 1))).u = mkN (pkF W Iv K (lvsUp x i)).u ||| mkN (ivk Iv i) := by
  rw [lvsUp_yes hb, pk_snoc]
  unfold pkStep
  refine ⟨by rw [ha, hs]; rfl, rfl, mk_app _ _⟩
set_option maxHeartbeats 2000000 in
theorem packingSum_any (x : Option Addr) (c n st : Nat) (W : List Int) (Iv : List (List Int)) (K : List Int) (w : World) (hw : ∀ a ∈ W, 0 ≤ a) (hg : GdI n Iv) (hn : n ≤ 12) (hst : st < 4096) (hx : Rd w x (bC (beL W Iv))) :
    Calls Try.prog 111 #[.slice x n c, .int .i64 (st : Int)] w fun e w' => e = .returned (.tuple #[.int .i64 (qZ (pkF W Iv K (lvsUp (st : Int) n))), .bool (pkF W Iv K (lvsUp (st : Int) n)).a]) ∧ Below w.heap.size w w' := by
  have hxh := Lib.hid hx
  have hwh := Lib.hid hw
  have hgh := Lib.hid hg
  have hnl := hg.1
  clear hx hw hg
  go_enter Try.func111, Try.ntmps111
  go_wp2
  go_loopw [6, 7, 12] (fun s u c wr => ∃ i : Nat, i ≤ n ∧ c = .int .i64 i ∧ s = .int .i64 (pkF W Iv K (lvsUp (st : Int) i)).s ∧ u = .int .i64 (mkN (pkF W Iv K (lvsUp (st : Int) i)).u : Int) ∧ Hid ((pkF W Iv K (lvsUp (st : Int) i)).a = true) ∧ Below w.heap.size w wr) (fun _ _ c _ => n - (intOf c).toNat)
  case atStart => exact ⟨0, by omega, rfl, rfl, rfl, rfl, (by repeat (first | exact Below.refl _ _ | assumption | refine Below.drew ?_ | refine below_drewN ?_ _ | refine Below.alloc' ?_ _ | (refine Below.setCell ?_ (by first | omega | (simp; done) | (simp; omega) | exact Below.size (by assumption) | exact Nat.le_trans (Below.size (by assumption)) (by simp)) _) | (refine Below.via' ?_ (by assumption)) | (refine Below.alloc ?_ (by first | omega | (simp; done) | (simp; omega) | exact Below.size (by assumption) | exact Nat.le_trans (Below.size (by assumption)) (by simp)) _) | (refine Below.via ?_ (by assumption) (by first | omega | (simp; done) | (simp; omega) | exact Below.size (by assumption) | exact Nat.le_trans (Below.size (by assumption)) (by simp)))))⟩
  case round =>
    obtain ⟨i, hi, rfl, rfl, rfl, ha, hBr⟩ := hrel
    by_cases hlt : i < n
    · obtain ⟨L, hL⟩ : ∃ L, Iv[i]? = some L := ⟨_, List.getElem?_eq_getElem (by omega)⟩
      obtain ⟨bl, off, hxv, hbl, hc0, hc1⟩ := (hxh.out.below hBr).two (be_at (W := W) hL)
      subst hxv
      have hLe : Hid (ivk Iv (i : Int) = L) := by unfold Hid ivk; rw [Int.toNat_natCast, hL]; rfl
      have b := pk_bd (K := K) hwh.out hgh.out _ (lvsUp (st : Int) i) rfl
      have hll := lvsUp_len (st : Int) i
      have g := hgh.out.2 L (List.mem_of_getElem? hL)
      have lb := lwF_bd hwh.out L 100 (by omega)
      have s0 := b.s0
      have s1 := b.s1
      have u2 := b.u2
      have m1 : mkN (pkF W Iv K (lvsUp (st : Int) i)).u < 64 := mk_lt (k := 6) fun v hv => (u2 v hv).2
      have m2 : mkN L < 64 := mk_lt (k := 6) fun v hv => (g.2 v hv).2
      have hand := Lib.hid (and64 (a := mkN (pkF W Iv K (lvsUp (st : Int) i)).u) (b := mkN L) (by omega) (by omega))
      have hor := Lib.hid (or64 (a := mkN (pkF W Iv K (lvsUp (st : Int) i)).u) (b := mkN L) (by omega) (by omega))
      have hshare := Lib.hid (mk_share (A := L) (B := (pkF W Iv K (lvsUp (st : Int) i)).u) (fun v hv => (g.2 v hv).1) (fun v hv => (u2 v hv).1))
      have hadd : wrap64 ((pkF W Iv K (lvsUp (st : Int) i)).s + lwZ W L) = (pkF W Iv K (lvsUp (st : Int) i)).s + lwZ W L := IntWalk.wrap64_in _ (by unfold lwZ; omega)
      have hbit : bits .and .i64 (st : Int) (wrap64 (2 ^ i)) = if hsB (st : Int) (i : Int) then 2 ^ i else 0 := by
        have h1 := and_bit (x := (st : Int)) (by omega) (by omega) i (by omega)
        rw [(pow_i64 (n := i) (by omega)).1, show ((2 ^ i : Nat) : Int) = (2 ^ i : Int) from Int.natCast_pow 2 i]
        exact h1
      have hlt' : (i : Int) < (n : Int) := by omega
      have hi0 : (0 : Int) ≤ (i : Int) := by omega
      have haddh := Lib.hid hadd
      clear b g lb s0 s1 u2 m1 m2 hL hadd
      cases hb : hsB (st : Int) (i : Int)
      · have hz : (bits .and .i64 (st : Int) (wrap64 (2 ^ i)) == 0) = true := by rw [hbit, hb]; rfl
        have hnx := Lib.hid (lvsUp_no (x := (st : Int)) (n := i) hb)
        replace hbit := Lib.hid hbit
        replace hb := Lib.hid hb
        go_wp2
        go_roundw
        case rel => exact ⟨i + 1, by omega, by go_num, by rw [hnx.out], by rw [hnx.out], by rw [hnx.out]; exact ha, (by repeat (first | exact Below.refl _ _ | assumption | refine Below.drew ?_ | refine below_drewN ?_ _ | refine Below.alloc' ?_ _ | (refine Below.setCell ?_ (by first | omega | (simp; done) | (simp; omega) | exact Below.size (by assumption) | exact Nat.le_trans (Below.size (by assumption)) (by simp)) _) | (refine Below.via' ?_ (by assumption)) | (refine Below.alloc ?_ (by first | omega | (simp; done) | (simp; omega) | exact Below.size (by assumption) | exact Nat.le_trans (Below.size (by assumption)) (by simp)) _) | (refine Below.via ?_ (by assumption) (by first | omega | (simp; done) | (simp; omega) | exact Below.size (by assumption) | exact Nat.le_trans (Below.size (by assumption)) (by simp)))))⟩
        case measure => simp [intOf]; omega
      · have hpz : (2 : Int) ^ i ≠ 0 := by have : (0 : Int) < 2 ^ i := Int.pow_pos (by decide); omega
        have hz : (bits .and .i64 (st : Int) (wrap64 (2 ^ i)) == 0) = false := by rw [hbit, hb, beq_eq_false_iff_ne]; exact hpz
        replace hbit := Lib.hid hbit
        cases hs : shB L (pkF W Iv K (lvsUp (st : Int) i)).u
        · have hon := Lib.hid (ps_on (W := W) (K := K) hb ha.out (by rw [hLe.out]; exact hs))
          have hzz : (bits .and .i64 (mkN (pkF W Iv K (lvsUp (st : Int) i)).u : Int) (mkN L : Int) == 0) = true := by rw [hand.out, hshare.out.2 hs]; rfl
          replace hb := Lib.hid hb
          replace hs := Lib.hid hs
          replace hpz := Lib.hid hpz
          go_wp2
          go_roundw
          case rel => exact ⟨i + 1, by omega, by go_num, by rw [hon.out.2.1, hLe.out, haddh.out], by rw [hon.out.2.2, hLe.out, hor.out], hon.out.1, (by repeat (first | exact Below.refl _ _ | assumption | refine Below.drew ?_ | refine below_drewN ?_ _ | refine Below.alloc' ?_ _ | (refine Below.setCell ?_ (by first | omega | (simp; done) | (simp; omega) | exact Below.size (by assumption) | exact Nat.le_trans (Below.size (by assumption)) (by simp)) _) | (refine Below.via' ?_ (by assumption)) | (refine Below.alloc ?_ (by first | omega | (simp; done) | (simp; omega) | exact Below.size (by assumption) | exact Nat.le_trans (Below.size (by assumption)) (by simp)) _) | (refine Below.via ?_ (by assumption) (by first | omega | (simp; done) | (simp; omega) | exact Below.size (by assumption) | exact Nat.le_trans (Below.size (by assumption)) (by simp)))))⟩
          case measure => simp [intOf]; omega
        · have hdead := Lib.hid (ps_dead (W := W) (K := K) (n := n) (by omega) hb (by rw [hLe.out]; exact hs))
          have hzz : (bits .and .i64 (mkN (pkF W Iv K (lvsUp (st : Int) i)).u : Int) (mkN L : Int) == 0) = false := by
            rw [hand.out, beq_eq_false_iff_ne]
            intro h0
            have h1 : mkN (pkF W Iv K (lvsUp (st : Int) i)).u &&& mkN L = 0 := by omega
            rw [hshare.out.1 h1] at hs
            cases hs
          replace hb := Lib.hid hb
          replace hs := Lib.hid hs
          replace hpz := Lib.hid hpz
          go_wp2
          go_ret2
          exact ⟨ret_qz (qZ_no hdead.out) hdead.out, (by repeat (first | exact Below.refl _ _ | assumption | refine Below.drew ?_ | refine below_drewN ?_ _ | refine Below.alloc' ?_ _ | (refine Below.setCell ?_ (by first | omega | (simp; done) | (simp; omega) | exact Below.size (by assumption) | exact Nat.le_trans (Below.size (by assumption)) (by simp)) _) | (refine Below.via' ?_ (by assumption)) | (refine Below.alloc ?_ (by first | omega | (simp; done) | (simp; omega) | exact Below.size (by assumption) | exact Nat.le_trans (Below.size (by assumption)) (by simp)) _) | (refine Below.via ?_ (by assumption) (by first | omega | (simp; done) | (simp; omega) | exact Below.size (by assumption) | exact Nat.le_trans (Below.size (by assumption)) (by simp)))))⟩
    · have hij : i = n := by omega
      subst hij
      go_wp2
      go_ret2
      exact ⟨ret_qz (qZ_yes ha.out) ha.out, (by repeat (first | exact Below.refl _ _ | assumption | refine Below.drew ?_ | refine below_drewN ?_ _ | refine Below.alloc' ?_ _ | (refine Below.setCell ?_ (by first | omega | (simp; done) | (simp; omega) | exact Below.size (by assumption) | exact Nat.le_trans (Below.size (by assumption)) (by simp)) _) | (refine Below.via' ?_ (by assumption)) | (refine Below.alloc ?_ (by first | omega | (simp; done) | (simp; omega) | exact Below.size (by assumption) | exact Nat.le_trans (Below.size (by assumption)) (by simp)) _) | (refine Below.via ?_ (by assumption) (by first | omega | (simp; done) | (simp; omega) | exact Below.size (by assumption) | exact Nat.le_trans (Below.size (by assumption)) (by simp)))))⟩
set_option maxHeartbeats 2000000 in
theorem bestPacking_any (x : Option Addr) (c n : Nat) (W : List Int) (Iv : List (List Int)) (K : List Int) (w : World) (hw : ∀ a ∈ W, 0 ≤ a) (hg : GdI n Iv) (hn : n ≤ 12) (hx : Rd w x (bC (beL W Iv))) :
    Calls Try.prog 79 #[.slice x n c] w fun e w' => e = .returned (.tuple #[.int .i64 (bbF W Iv K n (2 ^ n)).1, .int .i64 ((bbF W Iv K n (2 ^ n)).2 : Int)]) ∧ Below w.heap.size w w' := by
  have hxh := Lib.hid hx
  have hwh := Lib.hid hw
  have hgh := Lib.hid hg
  have hpw := pow_i64 (n := n) (by omega)
  have hN : (2 ^ n : Nat) ≤ 4096 := Nat.pow_le_pow_right (by decide) hn
  obtain ⟨N, hNe⟩ : ∃ N : Nat, 2 ^ n = N := ⟨_, rfl⟩
  rw [hNe] at hpw hN ⊢
  have hp1 := hpw.1
  have hNh := Lib.hid hNe
  clear hx hw hg hpw hNe
  go_enter Try.func79, Try.ntmps79
  go_wp2
  rw [hp1]
  go_loopw [4, 5, 12] (fun s u c wr => ∃ i : Nat, i ≤ N ∧ c = .int .i64 i ∧ s = .int .i64 (bbF W Iv K n i).1 ∧ u = .int .i64 ((bbF W Iv K n i).2 : Int) ∧ Below w.heap.size w wr) (fun _ _ c _ => N - (intOf c).toNat)
  case atStart => exact ⟨0, by omega, rfl, rfl, rfl, (by repeat (first | exact Below.refl _ _ | assumption | refine Below.drew ?_ | refine below_drewN ?_ _ | refine Below.alloc' ?_ _ | (refine Below.setCell ?_ (by first | omega | (simp; done) | (simp; omega) | exact Below.size (by assumption) | exact Nat.le_trans (Below.size (by assumption)) (by simp)) _) | (refine Below.via' ?_ (by assumption)) | (refine Below.alloc ?_ (by first | omega | (simp; done) | (simp; omega) | exact Below.size (by assumption) | exact Nat.le_trans (Below.size (by assumption)) (by simp)) _) | (refine Below.via ?_ (by assumption) (by first | omega | (simp; done) | (simp; omega) | exact Below.size (by assumption) | exact Nat.le_trans (Below.size (by assumption)) (by simp)))))⟩
  case round =>
    obtain ⟨i, hi, rfl, rfl, rfl, hBr⟩ := hrel
    by_cases hlt : i < N
    · have hlt' : (i : Int) < (N : Int) := by omega
      go_wp2_with fail
      refine (packingSum_any _ _ n i W Iv K _ hwh.out hgh.out hn (by omega) (hxh.out.below (by exact (by repeat (first | exact Below.refl _ _ | assumption | refine Below.drew ?_ | refine below_drewN ?_ _ | refine Below.alloc' ?_ _ | (refine Below.setCell ?_ (by first | omega | (simp; done) | (simp; omega) | exact Below.size (by assumption) | exact Nat.le_trans (Below.size (by assumption)) (by simp)) _) | (refine Below.via' ?_ (by assumption)) | (refine Below.alloc ?_ (by first | omega | (simp; done) | (simp; omega) | exact Below.size (by assumption) | exact Nat.le_trans (Below.size (by assumption)) (by simp)) _) | (refine Below.via ?_ (by assumption) (by first | omega | (simp; done) | (simp; omega) | exact Below.size (by assumption) | exact Nat.le_trans (Below.size (by assumption)) (by simp)))))))).mono ?_
      rintro e w2 ⟨rfl, hb2⟩
      have hB2 : Below w.heap.size w w2 := (by repeat (first | exact Below.refl _ _ | assumption | refine Below.drew ?_ | refine below_drewN ?_ _ | refine Below.alloc' ?_ _ | (refine Below.setCell ?_ (by first | omega | (simp; done) | (simp; omega) | exact Below.size (by assumption) | exact Nat.le_trans (Below.size (by assumption)) (by simp)) _) | (refine Below.via' ?_ (by assumption)) | (refine Below.alloc ?_ (by first | omega | (simp; done) | (simp; omega) | exact Below.size (by assumption) | exact Nat.le_trans (Below.size (by assumption)) (by simp)) _) | (refine Below.via ?_ (by assumption) (by first | omega | (simp; done) | (simp; omega) | exact Below.size (by assumption) | exact Nat.le_trans (Below.size (by assumption)) (by simp)))))
      cases ha : (pkF W Iv K (lvsUp (i : Int) n)).a
      · have hnx := Lib.hid (bb_no1 (W := W) (Iv := Iv) (K := K) (n := n) ha)
        replace ha := Lib.hid ha
        go_wp2
        go_roundw
        case rel => exact ⟨i + 1, by omega, by go_num, by rw [hnx.out], by rw [hnx.out], hB2⟩
        case measure => simp [intOf]; omega
      · have hq := qZ_yes ha
        rw [hq]
        by_cases hk : (bbF W Iv K n i).1 < (pkF W Iv K (lvsUp (i : Int) n)).s
        · have hnx := Lib.hid (bb_yes ha hk)
          replace ha := Lib.hid ha
          replace hq := Lib.hid hq
          go_wp2
          go_roundw
          case rel => exact ⟨i + 1, by omega, by go_num, by rw [hnx.out], by rw [hnx.out], hB2⟩
          case measure => simp [intOf]; omega
        · have hnx := Lib.hid (bb_no2 hk)
          replace ha := Lib.hid ha
          replace hq := Lib.hid hq
          go_wp2
          go_roundw
          case rel => exact ⟨i + 1, by omega, by go_num, by rw [hnx.out], by rw [hnx.out], hB2⟩
          case measure => simp [intOf]; omega
    · have hij : i = N := by omega
      subst hij
      go_wp2
      go_ret2
      exact ⟨rfl, hBr⟩
end Go.Proofs.Ytmcibcechffppaa
