import Derived.Test.YtgkaalonmkcclabGreatEdV
import Derived.Deep.DeepCutAuto
import Derived.Test.YtgkaalonmkcclabGreatRec
import Derived.Test.YtgkaalonmkcclabGreatRecL
import Derived.Test.YtgkaalonmkcclabGreatEdB
namespace Go.Proofs.YtgkaalonmkcclabGreat
open Go.RowKit
set_option maxRecDepth 100000

/-- The variables in which two lists of values differ. -/
def dvB (V X : List Int) (i : Nat) : Bool := !decide (V[i]? = X[i]?)
def dvL (V X : List Int) : List Int := pkUp (dvB V X) V.length
theorem dvL_len (V X : List Int) : (dvL V X).length ≤ V.length := pkUp_len _ _
theorem pk_iinW {w : World} {x : Option Addr} {p : Nat → Bool} {n : Nat} (hn : n ≤ 1000) (h : Rd w x (iC (pkUp p n))) : IIn w x (pkUp p n) := ⟨by have := pkUp_len p n; omega, fun v hv => by
  obtain ⟨i, rfl, hi, _⟩ := pkUp_mem hv
  unfold IsI64
  omega, h⟩
theorem pk_iin {w : World} {x : Option Addr} {p : Nat → Bool} {n : Nat} (hn : n ≤ 1000) (h : Rd w x (iC (pkUp p n))) : IIn w x (pkUp p n) := ⟨by have := pkUp_len p n; omega, fun v hv => by
  obtain ⟨i, rfl, hi, _⟩ := pkUp_mem hv
  unfold IsI64
  omega, h⟩
set_option maxHeartbeats 2000000 in
theorem differing_any (y z : Option Addr) (c1 c2 : Nat) (V X : List Int) (w : World) (hl : V.length = X.length) (h6 : V.length ≤ 1000) (hV : IIn w y V) (hX : IIn w z X) :
    Calls Tryz.prog 74 #[.slice y V.length c1, .slice z X.length c2] w (RetL (dvL V X) w) := by
  obtain ⟨i0, hii, hz0, hz1, hz2⟩ := info_parts Tryz.infoInt
  have hVh := Lib.hid hV
  have hXh := Lib.hid hX
  have hlh := Lib.hid hl
  clear hV hX hl
  go_enter Tryz.func74, Tryz.ntmps74
  go_wp2
  go_loopw [5, 9] (fun u c wr => ∃ i : Nat, i ≤ V.length ∧ c = .int .i64 i ∧ wr.ownsRow w.heap.size 3 1 u (pkUp (dvB V X) i).length (iC (pkUp (dvB V X) i)) ∧ Below w.heap.size w wr) (fun _ c _ => V.length - (intOf c).toNat)
  case atStart => exact ⟨0, by omega, rfl, World.ownsRow_nil _ _ _ _, (by repeat (first | exact Below.refl _ _ | assumption | refine Below.drew ?_ | refine below_drewN ?_ _ | refine Below.alloc' ?_ _ | (refine Below.setCell ?_ (by first | omega | (simp; done) | (simp; omega) | exact Below.size (by assumption) | exact Nat.le_trans (Below.size (by assumption)) (by simp)) _) | (refine Below.via' ?_ (by assumption)) | (refine Below.alloc ?_ (by first | omega | (simp; done) | (simp; omega) | exact Below.size (by assumption) | exact Nat.le_trans (Below.size (by assumption)) (by simp)) _) | (refine Below.via ?_ (by assumption) (by first | omega | (simp; done) | (simp; omega) | exact Below.size (by assumption) | exact Nat.le_trans (Below.size (by assumption)) (by simp)))))⟩
  case round =>
    obtain ⟨i, hi, rfl, hown, hBr⟩ := hrel
    have hownh := Lib.hid hown
    clear hown
    have hsl := pkUp_len (dvB V X) i
    by_cases hlt : i < V.length
    · obtain ⟨bl, off, a, rfl, hbl, hVi, hc0⟩ := (hVh.out.below hBr).2.2.int hlt
      obtain ⟨bl2, off2, d, rfl, hbl2, hXi, hc1⟩ := (hXh.out.below hBr).2.2.int (i := i) (by have := hlh.out; omega)
      have hlt' : (i : Int) < (V.length : Int) := by omega
      have hlt2 : (i : Int) < (X.length : Int) := by have := hlh.out; omega
      have hi0 : (0 : Int) ≤ (i : Int) := by omega
      by_cases he : a = d
      · have hsel : Hid (pkUp (dvB V X) (i + 1) = pkUp (dvB V X) i) := pkUp_no (by unfold dvB; rw [hVi, hXi, he]; simp)
        have heb : (a == d) = true := by rw [beq_iff_eq]; exact he
        replace he := Lib.hid he
        replace hVi := Lib.hid hVi
        replace hXi := Lib.hid hXi
        go_wp2
        go_region
        all_goals
          go_wp2
          go_roundw
          case rel => exact ⟨i + 1, by omega, by go_num, by rw [hsel.out]; exact hownh.out, (by repeat (first | exact Below.refl _ _ | assumption | refine Below.drew ?_ | refine below_drewN ?_ _ | refine Below.alloc' ?_ _ | (refine Below.setCell ?_ (by first | omega | (simp; done) | (simp; omega) | exact Below.size (by assumption) | exact Nat.le_trans (Below.size (by assumption)) (by simp)) _) | (refine Below.via' ?_ (by assumption)) | (refine Below.alloc ?_ (by first | omega | (simp; done) | (simp; omega) | exact Below.size (by assumption) | exact Nat.le_trans (Below.size (by assumption)) (by simp)) _) | (refine Below.via ?_ (by assumption) (by first | omega | (simp; done) | (simp; omega) | exact Below.size (by assumption) | exact Nat.le_trans (Below.size (by assumption)) (by simp)))))⟩
          case measure => simp [intOf]; omega
      · have hsel : Hid (pkUp (dvB V X) (i + 1) = pkUp (dvB V X) i ++ [(i : Int)]) := pkUp_yes (by unfold dvB; rw [hVi, hXi]; simp [he])
        have heb : (a == d) = false := by rw [beq_eq_false_iff_ne]; exact he
        replace he := Lib.hid he
        replace hVi := Lib.hid hVi
        replace hXi := Lib.hid hXi
        go_wp2
        go_upto_region 5 with fail
        go_cut [20] (fun s20 wx => s20 = .bool true ∧ Hid (wx.ownsRow w.heap.size 3 1 u5 (pkUp (dvB V X) i).length (iC (pkUp (dvB V X) i))) ∧ Below w.heap.size w wx)
        case first =>
          go_region
          all_goals
            go_wp2_with fail
            go_meet
            exact ⟨by rw [bne, heb]; rfl, hownh.out, (by repeat (first | exact Below.refl _ _ | assumption | refine Below.drew ?_ | refine below_drewN ?_ _ | refine Below.alloc' ?_ _ | (refine Below.setCell ?_ (by first | omega | (simp; done) | (simp; omega) | exact Below.size (by assumption) | exact Nat.le_trans (Below.size (by assumption)) (by simp)) _) | (refine Below.via' ?_ (by assumption)) | (refine Below.alloc ?_ (by first | omega | (simp; done) | (simp; omega) | exact Below.size (by assumption) | exact Nat.le_trans (Below.size (by assumption)) (by simp)) _) | (refine Below.via ?_ (by assumption) (by first | omega | (simp; done) | (simp; omega) | exact Below.size (by assumption) | exact Nat.le_trans (Below.size (by assumption)) (by simp)))))⟩
        obtain ⟨rfl, ow, hBx⟩ := hcut
        obtain ⟨wx, rfl⟩ : ∃ x : World, x = wc := ⟨_, rfl⟩
        clear hc0 hc1 hbl hbl2 hownh hBr
        have hlow := hBx.size
        go_wp2_with (at_builtin; go_loud (refine wpList_append_rd _ rfl (.tmp 21) (.tmp 23) 24 rfl (w.heap.size) 3 i0 (.int .i64 0) 1 8 Tryz.underlying24 hii hz0 hz1 hz2 rfl (by decide) _ (pkUp (dvB V X) i).length (iC (pkUp (dvB V X) i)) rfl ((ow.out.alloc _)) _ 1 1 rfl (Nat.le_refl _) (by intro h; cases h) (iC [((i : Int) : Int)]) rfl (rd_oneE _ _ _ _ (by simp)) (iC_one _) (by unfold maxLen; omega) (by omega) (by simp; omega) ?_); intro v3 w3 hown3 hgrow3 hwhere3)
        obtain ⟨hb4, -⟩ := append_below hBx (fun k hk => (ow.out.lt k hk).1) hgrow3 hwhere3
        have hown3 := Lib.hid (own_snocE hown3 hsel.out rfl)
        clear hgrow3 hwhere3
        go_wp2
        go_roundw
        case rel => exact ⟨i + 1, by omega, by go_num, hown3.out, hb4⟩
        case measure => simp [intOf]; omega
    · have hij : i = V.length := by omega
      subst hij
      go_wp2
      go_ret
      exact ⟨_, rfl, hownh.out, hBr⟩
end Go.Proofs.YtgkaalonmkcclabGreat

namespace Go.Proofs.YtgkaalonmkcclabGreat

/-- Lists in lexicographic order: -1, 0 or 1. -/
def lxZ : List Int → List Int → Int
  | [], [] => 0
  | [], _ :: _ => -1
  | _ :: _, [] => 1
  | a :: x, b :: y => if a < b then -1 else if b < a then 1 else lxZ x y
/-- Two numbers. -/
def cmZ (a b : Int) : Int := if a < b then -1 else if b < a then 1 else 0
def RV.key (p : RV) : List Int := p.1 :: p.2.1 :: p.2.2
/-- Two records. -/
def rcZ (p q : RV) : Int := lxZ (RV.key p) (RV.key q)
theorem lxZ_nilnil : lxZ [] [] = 0 := by unfold lxZ; rfl
theorem lxZ_nilcons (b : Int) (y : List Int) : lxZ [] (b :: y) = -1 := by unfold lxZ; rfl
theorem lxZ_consnil (a : Int) (x : List Int) : lxZ (a :: x) [] = 1 := by unfold lxZ; rfl
theorem lxZ_cons (a b : Int) (x y : List Int) : lxZ (a :: x) (b :: y) = if a < b then -1 else if b < a then 1 else lxZ x y := by rw [lxZ]
theorem lxZ_self : ∀ x : List Int, lxZ x x = 0
  | [] => lxZ_nilnil
  | a :: x => by rw [lxZ_cons, if_neg (by omega), if_neg (by omega), lxZ_self x]
theorem lxZ_neg : ∀ x y : List Int, lxZ y x = - lxZ x y
  | [], [] => by rw [lxZ_nilnil]; rfl
  | [], b :: y => by rw [lxZ_nilcons, lxZ_consnil]; rfl
  | a :: x, [] => by rw [lxZ_nilcons, lxZ_consnil]
  | a :: x, b :: y => by
    rw [lxZ_cons, lxZ_cons]
    by_cases h1 : a < b
    · rw [if_neg (by omega), if_pos h1, if_pos h1]; rfl
    · by_cases h2 : b < a
      · rw [if_pos h2, if_neg h1, if_pos h2]
      · rw [if_neg h2, if_neg h1, if_neg h1, if_neg h2, lxZ_neg x y]
theorem lxZ_bd : ∀ x y : List Int, lxZ x y = -1 ∨ lxZ x y = 0 ∨ lxZ x y = 1
  | [], [] => by rw [lxZ_nilnil]; simp
  | [], b :: y => by rw [lxZ_nilcons]; simp
  | a :: x, [] => by rw [lxZ_consnil]; simp
  | a :: x, b :: y => by
    rw [lxZ_cons]
    split
    · simp
    · split
      · simp
      · exact lxZ_bd x y
theorem lxZ_zero : ∀ {x y : List Int}, lxZ x y = 0 → x = y
  | [], [], _ => rfl
  | [], b :: y, h => by rw [lxZ_nilcons] at h; cases h
  | a :: x, [], h => by rw [lxZ_consnil] at h; cases h
  | a :: x, b :: y, h => by
    rw [lxZ_cons] at h
    split at h
    · cases h
    · split at h
      · cases h
      · rw [lxZ_zero h, show a = b by omega]
theorem lxZ_trans : ∀ {x y z : List Int}, lxZ x y ≤ 0 → lxZ y z ≤ 0 → lxZ x z ≤ 0
  | [], _, [], _, _ => by rw [lxZ_nilnil]; omega
  | [], _, _ :: _, _, _ => by rw [lxZ_nilcons]; omega
  | a :: x, [], _, h, _ => by rw [lxZ_consnil] at h; omega
  | a :: x, b :: y, [], _, h => by rw [lxZ_consnil] at h; omega
  | a :: x, b :: y, c :: z, h1, h2 => by
    rw [lxZ_cons] at h1 h2 ⊢
    split at h1
    · split at h2
      · rw [if_pos (by omega)]; omega
      · split at h2
        · omega
        · rw [if_pos (by omega)]; omega
    · split at h1
      · omega
      · split at h2
        · rw [if_pos (by omega)]; omega
        · split at h2
          · omega
          · rw [if_neg (by omega), if_neg (by omega)]
            exact lxZ_trans h1 h2
theorem key_inj {p q : RV} (h : RV.key p = RV.key q) : p = q := by
  unfold RV.key at h
  injection h with h1 h2
  injection h2 with h2 h3
  exact Prod.ext h1 (Prod.ext h2 h3)
theorem rcZ_self (p : RV) : rcZ p p = 0 := lxZ_self _
theorem rcZ_neg (p q : RV) : rcZ q p = - rcZ p q := lxZ_neg _ _
theorem rcZ_zero {p q : RV} (h : rcZ p q = 0) : p = q := key_inj (lxZ_zero h)
theorem rcZ_trans {p q r : RV} (h : rcZ p q ≤ 0) (k : rcZ q r ≤ 0) : rcZ p r ≤ 0 := lxZ_trans h k
theorem rcZ_bd (p q : RV) : rcZ p q = -1 ∨ rcZ p q = 0 ∨ rcZ p q = 1 := lxZ_bd _ _
theorem rcZ_of (p q : RV) : rcZ p q = if p.1 < q.1 then -1 else if q.1 < p.1 then 1 else if p.2.1 < q.2.1 then -1 else if q.2.1 < p.2.1 then 1 else lxZ p.2.2 q.2.2 := by
  unfold rcZ RV.key
  rw [lxZ_cons, lxZ_cons]

/-- Not after. -/
def leR (p q : RV) : Bool := decide (rcZ p q ≤ 0)
theorem leR_iff (p q : RV) : leR p q = true ↔ rcZ p q ≤ 0 := by unfold leR; simp
theorem leR_tr (a b c : RV) : leR a b = true → leR b c = true → leR a c = true := by rw [leR_iff, leR_iff, leR_iff]; exact rcZ_trans
theorem leR_to (a b : RV) : (leR a b || leR b a) = true := by
  rw [Bool.or_eq_true, leR_iff, leR_iff]
  have := rcZ_neg a b
  omega
theorem leR_anti {a b : RV} (h : leR a b = true) (k : leR b a = true) : a = b := by
  rw [leR_iff] at h k
  have := rcZ_neg a b
  exact rcZ_zero (by omega)
/-- The records in order. -/
def srt (L : List RV) : List RV := L.mergeSort leR
def isS (L : List RV) : Prop := L.Pairwise fun a b => leR a b = true
theorem srt_perm (L : List RV) : (srt L).Perm L := List.mergeSort_perm L leR
theorem srt_pw (L : List RV) : isS (srt L) := List.pairwise_mergeSort leR_tr leR_to L
theorem srt_len (L : List RV) : (srt L).length = L.length := (srt_perm L).length_eq
/-- There is but one list in order with the same records. -/
theorem srt_uniq {L M : List RV} (hp : M.Perm L) (hs : isS M) : M = srt L :=
  List.Perm.eq_of_pairwise (le := fun a b => leR a b = true) (fun _ _ _ _ h1 h2 => leR_anti h1 h2) hs (srt_pw L) (hp.trans (srt_perm L).symm)
/-- A record is put behind all that are not after it. -/
theorem isS_put {L : List RV} {r : RV} {k : Nat} (hs : isS L) (h1 : ∀ p ∈ L.drop k, leR r p = true) (h2 : k = 0 ∨ ∃ p, L[k - 1]? = some p ∧ leR p r = true) : isS (L.take k ++ r :: L.drop k) := by
  unfold isS at hs ⊢
  rw [← List.take_append_drop k L, List.pairwise_append] at hs
  obtain ⟨s1, s2, s3⟩ := hs
  refine List.pairwise_append.2 ⟨s1, List.pairwise_cons.2 ⟨h1, s2⟩, fun a ha b hb => ?_⟩
  have har : leR a r = true := by
    rcases h2 with h2 | ⟨p, hp, hpr⟩
    · subst h2; simp at ha
    · obtain ⟨j, hj, e⟩ := List.mem_take_iff_getElem.1 ha
      by_cases hjk : j = k - 1
      · subst hjk
        rw [List.getElem?_eq_getElem (by omega)] at hp
        injection hp with hp
        rw [← e, hp]
        exact hpr
      · have hkl : k - 1 < L.length := (List.getElem?_eq_some_iff.1 hp).1
        have : leR L[j] L[k - 1] = true := by
          have hpw := s1
          rw [List.pairwise_iff_getElem] at hpw
          have := hpw j (k - 1) (by rw [List.length_take]; omega) (by rw [List.length_take]; omega) (by omega)
          simpa using this
        rw [List.getElem?_eq_getElem hkl] at hp
        injection hp with hp
        rw [← e]
        exact leR_tr _ _ _ this (by rw [hp]; exact hpr)
  rcases List.mem_cons.1 hb with rfl | hb
  · exact har
  · exact s3 a ha b hb
theorem put_perm {α : Type} (L : List α) (r : α) (k : Nat) : (L.take k ++ r :: L.drop k).Perm (L ++ [r]) := by
  have : (L.take k ++ r :: L.drop k).Perm (r :: (L.take k ++ L.drop k)) := List.perm_middle
  rw [List.take_append_drop] at this
  exact this.trans (List.perm_append_singleton r L).symm
/-- Two lists are the same if and only if their sorted lists are equal, record by record. -/
def sameB (A B : List RV) : Bool := decide (srt A = srt B)

/-- Is it a record, are they data, for a valid schema? -/
def rokB (S : List (ByteArray × Int)) (q : RV) : Bool := inB q.1 0 29 && inB q.2.1 0 999 && fitB S q.2.2
def dokB (S : List (ByteArray × Int)) (Q : List RV) : Bool := decide (Q.length ≤ 40) && Q.all (rokB S)
theorem dokB_len {S : List (ByteArray × Int)} {Q : List RV} (h : dokB S Q = true) : Q.length ≤ 40 := by
  unfold dokB at h
  simp only [Bool.and_eq_true, decide_eq_true_eq] at h
  exact h.1
theorem dokB_mem {S : List (ByteArray × Int)} {Q : List RV} (h : dokB S Q = true) {q : RV} (hq : q ∈ Q) : rokB S q = true := by
  unfold dokB at h
  simp only [Bool.and_eq_true, decide_eq_true_eq, List.all_eq_true] at h
  exact h.2 q hq
theorem dokB_long {S : List (ByteArray × Int)} {Q : List RV} (h : 40 < Q.length) : dokB S Q = false := by unfold dokB; rw [decide_eq_false (by omega)]; rfl
theorem dokB_bad {S : List (ByteArray × Int)} {Q : List RV} {i : Nat} {q : RV} (h : Q[i]? = some q) (hq : rokB S q = false) : dokB S Q = false := by
  unfold dokB
  rw [Bool.and_eq_false_iff]
  right
  rw [List.all_eq_false]
  exact ⟨q, List.mem_of_getElem? h, by rw [hq]; simp⟩
theorem dokB_all {S : List (ByteArray × Int)} {Q : List RV} (h : ∀ j, j < Q.length → ∃ q, Q[j]? = some q ∧ rokB S q = true) : dokB S Q = decide (Q.length ≤ 40) := by
  unfold dokB
  have : Q.all (rokB S) = true := by
    rw [List.all_eq_true]
    intro q hq
    obtain ⟨j, hj, e⟩ := List.getElem_of_mem hq
    obtain ⟨p, hp, hr⟩ := h j hj
    rw [List.getElem?_eq_getElem hj, e] at hp
    injection hp with hp
    rw [hp]; exact hr
  rw [this, Bool.and_true]
theorem rokB_get {S : List (ByteArray × Int)} {q : RV} (h : rokB S q = true) : 0 ≤ q.1 ∧ q.1 ≤ 29 ∧ 0 ≤ q.2.1 ∧ q.2.1 ≤ 999 ∧ fitB S q.2.2 = true := by
  unfold rokB at h
  rw [Bool.and_eq_true, Bool.and_eq_true, inB_iff, inB_iff] at h
  exact ⟨h.1.1.1, h.1.1.2, h.1.2.1, h.1.2.2, h.2⟩
/-- A schema, a record; a schema, data. -/
def irB (S : List (ByteArray × Int)) (q : RV) : Bool := schB S && rokB S q
def idB (S : List (ByteArray × Int)) (Q : List RV) : Bool := schB S && dokB S Q
end Go.Proofs.YtgkaalonmkcclabGreat

namespace Go.Proofs.YtgkaalonmkcclabGreat
open Go.RowKit
set_option maxRecDepth 100000

/-- Block g holds a record. -/
def RB (w : World) (g : Nat) (a h : Int) (x : Option Addr) (n c : Nat) : Prop :=
  w.cell? ⟨g, 0, none⟩ = some (.int .i64 a) ∧ w.cell? ⟨g, 1, none⟩ = some (.int .i64 h) ∧ w.cell? ⟨g, 2, none⟩ = some (.slice x n c) ∧ g < w.heap.size
theorem RB.new (w : World) (a h : Int) (x : Option Addr) (n c : Nat) (t : TypeId) : RB (w.alloc (.cells #[.int .i64 a, .int .i64 h, .slice x n c] t)) w.heap.size a h x n c := by
  have k := Wb.new w t #[.int .i64 a, .int .i64 h, .slice x n c]
  exact ⟨(k.read 0).trans rfl, (k.read 1).trans rfl, (k.read 2).trans rfl, k.inside⟩
theorem RB.below {w w' : World} {g : Nat} {a h : Int} {x : Option Addr} {n c : Nat} (k : RB w g a h x n c) (hb : Below w.heap.size w w') : RB w' g a h x n c :=
  ⟨(hb.cell k.2.2.2).trans k.1, (hb.cell k.2.2.2).trans k.2.1, (hb.cell k.2.2.2).trans k.2.2.1, Nat.lt_of_lt_of_le k.2.2.2 hb.size⟩
theorem RB.off {w w' : World} {lo hi g : Nat} {a h : Int} {x : Option Addr} {n c : Nat} (k : RB w g a h x n c) (hg : Off lo hi w w') (hne : g < lo ∨ hi ≤ g) : RB w' g a h x n c := by
  have e := hg.block g k.2.2.2 hne
  exact ⟨(World.cell?_of_block (a := ⟨g, 0, none⟩) e).trans k.1, (World.cell?_of_block (a := ⟨g, 1, none⟩) e).trans k.2.1, (World.cell?_of_block (a := ⟨g, 2, none⟩) e).trans k.2.2.1, Nat.lt_of_lt_of_le k.2.2.2 hg.size⟩

theorem rok_no {S : List (ByteArray × Int)} {a h : Int} {L : List Int} (k : ¬ (0 ≤ a ∧ a ≤ 29) ∨ ¬ (0 ≤ h ∧ h ≤ 999)) : rokB S (a, h, L) = false := by
  unfold rokB
  rcases k with k | k
  · rw [(inB_no a 0 29).2 k]; rfl
  · rw [(inB_no h 0 999).2 k, Bool.and_false]; rfl
theorem rok_yes {S : List (ByteArray × Int)} {a h : Int} {L : List Int} (k : 0 ≤ a ∧ a ≤ 29) (k2 : 0 ≤ h ∧ h ≤ 999) : rokB S (a, h, L) = fitB S L := by
  unfold rokB
  rw [(inB_iff a 0 29).2 k, (inB_iff h 0 999).2 k2]; rfl

theorem ret_bb {a b p q : Bool} (h : a = b) (k : p = q) : Ending.returned (.tuple #[.bool a, .bool p]) = .returned (.tuple #[.bool b, .bool q]) := by rw [h, k]
end Go.Proofs.YtgkaalonmkcclabGreat

namespace Go.Proofs.YtgkaalonmkcclabGreat
open Go.RowKit
set_option maxRecDepth 100000

theorem lx_step {A B : List Int} {i : Nat} {a b : Int} (hA : A[i]? = some a) (hB : B[i]? = some b) : lxZ (A.drop i) (B.drop i) = if a < b then -1 else if b < a then 1 else lxZ (A.drop (i + 1)) (B.drop (i + 1)) := by
  obtain ⟨ha, ea⟩ := List.getElem?_eq_some_iff.1 hA
  obtain ⟨hb, eb⟩ := List.getElem?_eq_some_iff.1 hB
  rw [List.drop_eq_getElem_cons ha, List.drop_eq_getElem_cons hb, lxZ_cons, ea, eb]
theorem lx_long {A B : List Int} {i : Nat} (hA : i < A.length) (hB : B.length ≤ i) : lxZ (A.drop i) (B.drop i) = 1 := by
  rw [List.drop_eq_getElem_cons hA, List.drop_eq_nil_of_le hB, lxZ_consnil]
theorem lx_short {A B : List Int} {i : Nat} (hA : A.length ≤ i) (hB : i < B.length) : lxZ (A.drop i) (B.drop i) = -1 := by
  rw [List.drop_eq_getElem_cons hB, List.drop_eq_nil_of_le hA, lxZ_nilcons]
theorem lx_same {A B : List Int} {i : Nat} (hA : A.length ≤ i) (hB : B.length ≤ i) : lxZ (A.drop i) (B.drop i) = 0 := by
  rw [List.drop_eq_nil_of_le hA, List.drop_eq_nil_of_le hB, lxZ_nilnil]
theorem cmZ_lt {a b : Int} (h : a < b) : cmZ a b = -1 := by unfold cmZ; rw [if_pos h]
theorem cmZ_gt {a b : Int} (h : b < a) : cmZ a b = 1 := by unfold cmZ; rw [if_neg (by omega), if_pos h]
theorem cmZ_eq {a b : Int} (h : a = b) : cmZ a b = 0 := by unfold cmZ; rw [if_neg (by omega), if_neg (by omega)]
/-- The first that is not 0. -/
def orZ : List Int → Int
  | [] => 0
  | a :: r => if a = 0 then orZ r else a
theorem orZ_nil : orZ [] = 0 := rfl
theorem orZ_cons (a : Int) (r : List Int) : orZ (a :: r) = if a = 0 then orZ r else a := rfl
theorem or_step {L : List Int} {i : Nat} {a : Int} (h : L[i]? = some a) : orZ (L.drop i) = if a = 0 then orZ (L.drop (i + 1)) else a := by
  obtain ⟨hi, e⟩ := List.getElem?_eq_some_iff.1 h
  rw [List.drop_eq_getElem_cons hi, orZ_cons, e]
theorem rcZ_or (p q : RV) : orZ [cmZ p.1 q.1, cmZ p.2.1 q.2.1, lxZ p.2.2 q.2.2] = rcZ p q := by
  rw [rcZ_of, orZ_cons, orZ_cons, orZ_cons, orZ_nil]
  by_cases h1 : p.1 < q.1
  · rw [cmZ_lt h1, if_neg (by omega), if_pos h1]
  · by_cases h2 : q.1 < p.1
    · rw [cmZ_gt h2, if_neg (by omega), if_neg h1, if_pos h2]
    · rw [cmZ_eq (by omega), if_pos rfl, if_neg h1, if_neg h2]
      by_cases h3 : p.2.1 < q.2.1
      · rw [cmZ_lt h3, if_neg (by omega), if_pos h3]
      · by_cases h4 : q.2.1 < p.2.1
        · rw [cmZ_gt h4, if_neg (by omega), if_neg h3, if_pos h4]
        · rw [cmZ_eq (by omega), if_pos rfl, if_neg h3, if_neg h4]
          split
          · rename_i h5; rw [h5]
          · rfl
theorem rcZ_two (p q : RV) : (if lxZ [p.1, p.2.1] [q.1, q.2.1] = 0 then lxZ p.2.2 q.2.2 else lxZ [p.1, p.2.1] [q.1, q.2.1]) = rcZ p q := by
  rw [rcZ_of, lxZ_cons, lxZ_cons, lxZ_nilnil]
  by_cases h1 : p.1 < q.1
  · rw [if_pos h1, if_neg (by omega), if_pos h1]
  · by_cases h2 : q.1 < p.1
    · rw [if_neg h1, if_pos h2, if_neg (by omega), if_neg h1, if_pos h2]
    · rw [if_neg h1, if_neg h2, if_neg h1, if_neg h2]
      by_cases h3 : p.2.1 < q.2.1
      · rw [if_pos h3, if_neg (by omega), if_pos h3]
      · by_cases h4 : q.2.1 < p.2.1
        · rw [if_neg h3, if_pos h4, if_neg (by omega), if_neg h3, if_pos h4]
        · rw [if_neg h3, if_neg h4, if_pos rfl, if_neg h3, if_neg h4]

theorem cmpInt_any (a b : Int) (w : World) :
    Calls Tryz.prog 79 #[.int .i64 a, .int .i64 b] w fun e w' => e = .returned (.int .i64 (cmZ a b)) ∧ w = w' := by
  by_cases h1 : a < b
  · rw [cmZ_lt h1]
    go_enter Tryz.func79, Tryz.ntmps79
    go_wp2
    go_ret
    exact ⟨rfl, rfl⟩
  · by_cases h2 : b < a
    · rw [cmZ_gt h2]
      go_enter Tryz.func79, Tryz.ntmps79
      go_wp2
      go_ret
      exact ⟨rfl, rfl⟩
    · rw [cmZ_eq (by omega)]
      go_enter Tryz.func79, Tryz.ntmps79
      go_wp2
      go_ret
      exact ⟨rfl, rfl⟩

set_option maxHeartbeats 2000000 in
theorem sliceCmp_any (x y : Option Addr) (c1 c2 : Nat) (A B : List Int) (w : World) (hA : Rd w x (iC A)) (hB : Rd w y (iC B)) (hm : A.length ≤ 9223372036854775807) :
    Calls Tryz.prog 92 #[.slice x A.length c1, .slice y B.length c2] w fun e w' => e = .returned (.int .i64 (lxZ A B)) ∧ w = w' := by
  have hAh := Lib.hid hA
  have hBh := Lib.hid hB
  clear hA hB
  go_enter Tryz.func92, Tryz.ntmps92
  go_wp2
  go_loop [11] (fun c => ∃ i : Nat, i ≤ A.length ∧ i ≤ B.length ∧ c = .int .i64 i ∧ Hid (lxZ (A.drop i) (B.drop i) = lxZ A B)) (fun c => A.length - (intOf c).toNat)
  case atStart => exact ⟨0, by omega, by omega, rfl, rfl⟩
  case round =>
    obtain ⟨i, hi, hi2, rfl, hv⟩ := hrel
    by_cases hlt : i < A.length
    · obtain ⟨bl, off, a, rfl, hbl, hAi, hc0⟩ := hAh.out.int hlt
      have hlt' : (i : Int) < (A.length : Int) := by omega
      have hi0 : (0 : Int) ≤ (i : Int) := by omega
      by_cases hlt2 : i < B.length
      · obtain ⟨bl2, off2, b, rfl, hbl2, hBi, hc1⟩ := hBh.out.int hlt2
        have hlt2' : (i : Int) < (B.length : Int) := by omega
        have hst := Lib.hid (lx_step hAi hBi)
        clear hAi hBi
        by_cases h1 : a < b
        · have hr : Hid (lxZ A B = -1) := by unfold Hid; rw [← hv.out, hst.out, if_pos h1]
          have hz := cmZ_lt h1
          go_wp2_with (go_at_call 79; refine (cmpInt_any _ _ _).mono ?_; rintro e w1 ⟨rfl, rfl⟩; rw [hz])
          go_ret
          exact ⟨ret_int hr.out.symm, rfl⟩
        · by_cases h2 : b < a
          · have hr : Hid (lxZ A B = 1) := by unfold Hid; rw [← hv.out, hst.out, if_neg h1, if_pos h2]
            have hz := cmZ_gt h2
            go_wp2_with (go_at_call 79; refine (cmpInt_any _ _ _).mono ?_; rintro e w1 ⟨rfl, rfl⟩; rw [hz])
            go_ret
            exact ⟨ret_int hr.out.symm, rfl⟩
          · have hr : Hid (lxZ (A.drop (i + 1)) (B.drop (i + 1)) = lxZ A B) := by unfold Hid; rw [← hv.out, hst.out, if_neg h1, if_neg h2]
            have hz := cmZ_eq (show a = b by omega)
            go_wp2_with (go_at_call 79; refine (cmpInt_any _ _ _).mono ?_; rintro e w1 ⟨rfl, rfl⟩; rw [hz])
            go_round
            case rel => exact ⟨i + 1, by omega, by omega, by go_num, hr⟩
            case measure => simp [intOf]; omega
      · have hr : Hid (lxZ A B = 1) := by unfold Hid; rw [← hv.out, lx_long hlt (by omega)]
        clear hAi
        go_wp2
        go_ret
        exact ⟨ret_int hr.out.symm, rfl⟩
    · by_cases hlt2 : i < B.length
      · have hr : Hid (lxZ A B = -1) := by unfold Hid; rw [← hv.out, lx_short (by omega) hlt2]
        have hx : (A.length : Int) < (B.length : Int) := by omega
        go_wp2
        go_ret
        exact ⟨ret_int hr.out.symm, rfl⟩
      · have hr : Hid (lxZ A B = 0) := by unfold Hid; rw [← hv.out, lx_same (by omega) (by omega)]
        have hx : ¬ (A.length : Int) < (B.length : Int) := by omega
        go_wp2
        go_ret
        exact ⟨ret_int hr.out.symm, rfl⟩

set_option maxHeartbeats 2000000 in
theorem cmpOr_any (x : Option Addr) (n c : Nat) (L : List Int) (w : World) (hn : L.length = n) (hL : Rd w x (iC L)) (hm : n ≤ 1000) :
    Calls Tryz.prog 78 #[.slice x n c] w fun e w' => e = .returned (.int .i64 (orZ L)) ∧ w = w' := by
  have hLh := Lib.hid hL
  clear hL
  replace hn := Lib.hid hn
  go_enter Tryz.func78, Tryz.ntmps78
  go_wp2
  go_loop [8] (fun c => ∃ i : Nat, i ≤ n ∧ c = .int .i64 i ∧ Hid (orZ (L.drop i) = orZ L)) (fun c => n - (intOf c).toNat)
  case atStart => exact ⟨0, by omega, rfl, rfl⟩
  case round =>
    obtain ⟨i, hi, rfl, hv⟩ := hrel
    by_cases hlt : i < n
    · obtain ⟨bl, off, a, rfl, hbl, hLi, hc0⟩ := hLh.out.int (i := i) (by rw [hn.out]; exact hlt)
      have hlt' : (i : Int) < (n : Int) := by omega
      have hi0 : (0 : Int) ≤ (i : Int) := by omega
      have hst := Lib.hid (or_step hLi)
      clear hLi
      by_cases h1 : a = 0
      · have hr : Hid (orZ (L.drop (i + 1)) = orZ L) := by unfold Hid; rw [← hv.out, hst.out, if_pos h1]
        have hb : (a == 0) = true := by rw [beq_iff_eq]; exact h1
        have hb2 : (a != 0) = false := by show (!(a == 0)) = false; rw [hb]; rfl
        replace h1 := Lib.hid h1
        go_wp2
        go_round
        case rel => exact ⟨i + 1, by omega, by go_num, hr⟩
        case measure => simp [intOf]; omega
      · have hr : Hid (orZ L = a) := by unfold Hid; rw [← hv.out, hst.out, if_neg h1]
        have hb : (a == 0) = false := by rw [beq_eq_false_iff_ne]; exact h1
        have hb2 : (a != 0) = true := by show (!(a == 0)) = true; rw [hb]; rfl
        go_wp2
        go_ret
        exact ⟨ret_int hr.out.symm, rfl⟩
    · have hr : Hid (orZ L = 0) := by unfold Hid; rw [← hv.out, List.drop_eq_nil_of_le (by have := hn.out; omega), orZ_nil]
      go_wp2
      go_ret
      exact ⟨ret_int hr.out.symm, rfl⟩
end Go.Proofs.YtgkaalonmkcclabGreat

namespace Go.Proofs.YtgkaalonmkcclabGreat
open Go.RowKit Go.Shelf
set_option maxRecDepth 100000

/-- What an iterator promises: at each yield J holds of what has come and R of what is handed over; at the end all has come, or a round has said no. -/
def RowSeq {β : Type} (n : Nat) (P : Program) (gf : Nat) (lb : Array Value) (val : β → Value) (Kp : World → World → Prop) (R : List β → β → World → Prop) (S : List β → Prop) (w : World) : Prop :=
  ∀ (l : Nat) (J Jx : List β → World → Prop) (W : World), Below w.heap.size w W → OwnFrom W.heap.size J → OwnFrom W.heap.size Jx →
    (∀ pre x W1, J pre W1 → R pre x W1 → YieldAt Fence.wide (n - 1) P l #[val x] W1 fun e W' => KeepsFrom W.heap.size W1 W' ∧ ((e = .returned (.bool true) ∧ J (pre ++ [x]) W' ∧ Kp W1 W') ∨ (e = .returned (.bool false) ∧ Jx (pre ++ [x]) W'))) → J [] W →
    CallsIn Fence.wide n P gf (#[.func (.yield l) #[] #[]] ++ lb) W fun e W' => (∃ v, e = .returned v) ∧ ((∃ ys, S ys ∧ J ys W') ∨ ∃ pre, Jx pre W')

/-- How a round ends: it goes on, or it returns. -/
def RowPost {β : Type} (B : Nat) (Kp : World → World → Prop) (I Ix : List β → World → Prop) (s : List β) (W : World) (e : Exit) (_ : Act) (W' : World) : Prop :=
  match e with
  | .normal => KeepsFrom B W W' ∧ Kp W W' ∧ I s W'
  | .ret => KeepsFrom B W W' ∧ Ix s W'
  | _ => False

theorem rowPost_on {β : Type} {B : Nat} {Kp : World → World → Prop} {I Ix : List β → World → Prop} {s : List β} {W W' : World} {a : Act} (h1 : KeepsFrom B W W') (h2 : Kp W W') (h3 : I s W') : RowPost B Kp I Ix s W .normal a W' := ⟨h1, h2, h3⟩
theorem rowPost_ret {β : Type} {B : Nat} {Kp : World → World → Prop} {I Ix : List β → World → Prop} {s : List β} {W W' : World} {a : Act} (h1 : KeepsFrom B W W') (h2 : Ix s W') : RowPost B Kp I Ix s W .ret a W' := ⟨h1, h2⟩
theorem keeps_mono {B B' : Nat} {W W' : World} (h : KeepsFrom B W W') (hb : B ≤ B') : KeepsFrom B' W W' := ⟨h.size, fun k o hk h0 hc => h.same k o (Nat.le_trans hb hk) h0 hc⟩
theorem keeps_put {B l : Nat} (W : World) (o : Obj) (hl : l < B) : KeepsFrom B W (W.putObj l o) := KeepsFrom.of_grownBy (grownBy_putObj' W l o) (fun j e => by cases e; exact hl)
theorem range_rows {β : Type} {n : Nat} {P : Program} {g : Operand} {ps : Array Tmp} {assign body : Code} {Q : Exit → Act → World → Prop} {a : Act} {w w0 : World} {gf : Nat} {lb : Array Value} (h1 : 1 ≤ n)
    (hg : a.eval g = .func (.func gf) #[] lb) (eg : ∀ args w, (callFunc gf args).run P w = .ok (.enter gf args) w) (hps : ps.size = 1)
    (val : β → Value) (Kp : World → World → Prop) (R : List β → β → World → Prop) (S : List β → Prop) (hit : RowSeq (n - 1) P gf lb val Kp R S w0) (hb0 : Below w0.heap.size w0 w)
    (hKt : ∀ A B C : World, Kp A B → Kp B C → Kp A C) (hKb : (∃ A B, Kp A B) → ∀ (W : World) (l : Nat) (o o' : Obj), w.heap.size ≤ l → W.heap[l]? = some o → o.isCells = false → o.isWalk = false → Kp W (W.putObj l o'))
    (I Ix : List β → World → Prop) (hI : OwnFrom w.heap.size I) (hIx : OwnFrom w.heap.size Ix) (h0 : I [] w) (Ax : List β → β → Act → World → Prop) (hAx : ∀ pre x a', OwnFrom w.heap.size (fun (_ : Unit) W => Ax pre x a' W))
    (hassign : ∀ (l : Nat) (pre : List β) (x : β) (W : World) (K : Act → World → Prop), I pre W → R pre x W → (∀ a' W', KeepsFrom w.heap.size W W' → ((∃ A B, Kp A B) → Kp W W') → I pre W' → Ax pre x a' W' → K a' W') →
      assign.wpIn (Fence.wide.inRound l) (n - 1 - 1) P (Exit.then K (fun _ _ _ => False)) { tmps := (ps.zip #[val x]).foldl (fun t (p, v) => t.setIfInBounds p v) a.tmps, defers := [] } W)
    (hbody : ∀ (l : Nat) (pre : List β) (x : β) (a' : Act) (W : World), w.heap.size ≤ l → (∃ r, W.heap[l]? = some (.loop r)) → I pre W → Ax pre x a' W → body.wpIn (Fence.wide.inRound l) (n - 1 - 1) P (RowPost w.heap.size Kp I Ix (pre ++ [x]) W) a' W)
    (hdone : ∀ (ys : List β) (W : World), S ys → I ys W → W.heap[w.heap.size]? = some (.deferred (some [])) → Q .normal { a with defers := { target := .collected w.heap.size, args := #[] } :: a.defers } W)
    (hstop : ∀ (pre : List β) (W : World), Ix pre W → W.heap[w.heap.size]? = some (.deferred (some [])) → Code.ret.wpIn Fence.wide n P Q { a with defers := { target := .collected w.heap.size, args := #[] } :: a.defers } W) :
    (Code.rangeFunc g ps assign body).wpIn Fence.wide n P Q a w := by
  refine wpIn_rangeFunc ?_
  intro fn hfn
  rw [show Fence.wide.round = none from rfl]
  let r : LoopState → Option Code → Loop := fun st pe => { state := st, pending := pe, fn := fn, tmps := a.tmps, params := ps, assign := assign, body := body, defers := w.heap.size }
  let W1 := (w.alloc (.deferred (some []))).alloc (.loop (r .ready none))
  have hsz : (w.alloc (.deferred (some []))).heap.size = w.heap.size + 1 := World.size_alloc _ _
  have hL : W1.heap[w.heap.size + 1]? = some (.loop (r .ready none)) := by rw [← hsz]; exact World.alloc_heap_new _ _
  have hD : W1.heap[w.heap.size]? = some (.deferred (some [])) := (Below.heap_alloc _ _ _ (by omega)).trans (World.alloc_heap_new w _)
  have hs1 : W1.heap.size = w.heap.size + 2 := by show ((w.alloc _).alloc _).heap.size = _; rw [World.size_alloc, World.size_alloc]
  have hIW : I [] W1 := hI.alloc _ (hI.alloc _ h0)
  have hbW : Below w0.heap.size w0 W1 := hb0.trans (((Below.refl _ w).alloc (Nat.le_refl _) _ |>.alloc (by omega) _).mono hb0.size)
  refine ⟨w.heap.size + 1, [{ target := .collected w.heap.size, args := #[] }], W1, { target := .fn (.func gf) lb, args := #[.func (.yield (w.heap.size + 1)) #[] #[]] }, W1, gf, #[.func (.yield (w.heap.size + 1)) #[] #[]] ++ lb, W1, run_enterLoop_outer _ _ _ _ _, ?_, fun _ _ => trivial, ?_, fun _ => h1, ?_⟩
  · simp only [resolve, hg]
    simp [go_sem]
  · simp [invoke, go_sem, eg]
  refine (hit (w.heap.size + 1) (fun pre W => I pre W ∧ W.heap[w.heap.size + 1]? = some (.loop (r .ready none)) ∧ W.heap[w.heap.size]? = some (.deferred (some [])))
    (fun pre W => Ix pre W ∧ W.heap[w.heap.size + 1]? = some (.loop (r .done (some .ret))) ∧ W.heap[w.heap.size]? = some (.deferred (some []))) W1 hbW ?_ ?_ ?_ ⟨hIW, hL, hD⟩).mono ?_
  · rintro pre A B row ⟨i, l, d⟩ hgr hrow
    exact ⟨hI pre A B row i hgr (fun k hk => ⟨by have := (hrow k hk).1; omega, (hrow k hk).2⟩), (hgr.block _ (Array.getElem?_eq_some_iff.1 l).1 (fun h => by have := (hrow _ h.symm).1; omega)).trans l, (hgr.block _ (Array.getElem?_eq_some_iff.1 d).1 (fun h => by have := (hrow _ h.symm).1; omega)).trans d⟩
  · rintro pre A B row ⟨i, l, d⟩ hgr hrow
    exact ⟨hIx pre A B row i hgr (fun k hk => ⟨by have := (hrow k hk).1; omega, (hrow k hk).2⟩), (hgr.block _ (Array.getElem?_eq_some_iff.1 l).1 (fun h => by have := (hrow _ h.symm).1; omega)).trans l, (hgr.block _ (Array.getElem?_eq_some_iff.1 d).1 (fun h => by have := (hrow _ h.symm).1; omega)).trans d⟩
  · rintro pre x W ⟨i, l, d⟩ hr
    refine ⟨fn, _, assign, body, run_yield (args := #[val x]) l (by show 1 = ps.size; omega), roundIn_of_wpIn hfn (hassign _ pre x W _ i hr ?_)⟩
    rintro a' Wa ka kpa ia ax
    replace l := ka.same _ _ (by omega) l rfl
    replace d := ka.same _ _ (Nat.le_refl _) d rfl
    have hlt := (Array.getElem?_eq_some_iff.1 l).1
    refine ⟨_, run_beginRound l rfl, ?_⟩
    have l2 : (Wa.putObj (w.heap.size + 1) (.loop (r .busy none))).heap[w.heap.size + 1]? = some (.loop (r .busy none)) := World.putObj_heap_same hlt
    have d2 : (Wa.putObj (w.heap.size + 1) (.loop (r .busy none))).heap[w.heap.size]? = some (.deferred (some [])) := (World.putObj_heap_other (by omega)).trans d
    refine wpIn_mono (hbody _ pre x a' _ (by omega) ⟨_, l2⟩ (hI.putObj _ ia (by omega) l rfl) ((hAx pre x a').putObj (s := ()) _ ax (by omega) l rfl)) ?_
    rintro e a3 W3 hp
    cases e with
    | normal =>
      obtain ⟨hk, hkp, hi⟩ := hp
      have l3 := hk.same _ _ (by omega) l2 rfl
      have d3 := hk.same _ _ (Nat.le_refl _) d2 rfl
      have hex : ∃ A B, Kp A B := ⟨_, _, hkp⟩
      have kp2 : Kp Wa (Wa.putObj (w.heap.size + 1) (.loop (r .busy none))) := hKb hex _ _ _ _ (by omega) l rfl rfl
      exact ⟨_, _, run_endRound none l3, (keeps_mono ka (by omega)).trans ((keeps_put _ _ (by omega)).trans ((keeps_mono hk (by omega)).trans (keeps_put _ _ (by omega)))), .inl ⟨rfl, ⟨hI.putObj _ hi (by omega) l3 rfl, World.putObj_heap_same (Array.getElem?_eq_some_iff.1 l3).1, (World.putObj_heap_other (by omega)).trans d3⟩, hKt _ _ _ (kpa hex) (hKt _ _ _ (hKt _ _ _ kp2 hkp) (hKb hex _ _ _ _ (by omega) l3 rfl rfl))⟩⟩
    | ret =>
      obtain ⟨hk, hx⟩ := hp
      have l3 := hk.same _ _ (by omega) l2 rfl
      have d3 := hk.same _ _ (Nat.le_refl _) d2 rfl
      exact ⟨_, _, run_endRound (some .ret) l3, (keeps_mono ka (by omega)).trans ((keeps_put _ _ (by omega)).trans ((keeps_mono hk (by omega)).trans (keeps_put _ _ (by omega)))), .inr ⟨rfl, hIx.putObj _ hx (by omega) l3 rfl, World.putObj_heap_same (Array.getElem?_eq_some_iff.1 l3).1, (World.putObj_heap_other (by omega)).trans d3⟩⟩
    | exit id => exact hp.elim
    | goto t => exact hp.elim
    | panic ch => exact hp.elim
    | outgrown => exact hp.elim
  · rintro e W2 ⟨⟨v, rfl⟩, ⟨ys, hs, i, l, d⟩ | ⟨pre, hx, l, d⟩⟩
    · exact ⟨none, _, run_endLoop l (by intro h; cases h), hdone ys _ hs (hI.putObj _ i (by omega) l rfl) ((World.putObj_heap_other (by omega)).trans d)⟩
    · exact ⟨some .ret, _, run_endLoop l (by intro h; cases h), hstop pre _ (hIx.putObj _ hx (by omega) l rfl) ((World.putObj_heap_other (by omega)).trans d)⟩
end Go.Proofs.YtgkaalonmkcclabGreat
