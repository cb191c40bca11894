/-
  The laws' helpers on records and lists of records: the size, a copy, a comparison.
-/
import Derived.Test.YtnmpigedhpdenabRec
import Derived.Test.YtnmpigedhpdenabGrpL
namespace Go.Proofs.Ytnmpigedhpdenab
open Go.RowKit
set_option maxRecDepth 100000

theorem Try.infoRec : (Try.prog.info? 140).map (fun i => (i.zero, i.size, i.bytes)) = some (some (.agg #[.int .i64 0, .int .i64 0, .slice none 0 0]), 3, 40) := by kernel_rfl
/-- The value of a record. -/
def PR.g (q : PR) : Value := .agg #[.int .i64 q.a, .int .i64 q.h, .slice q.x q.L.length q.c]

theorem szRecord_any (a h : Int) (y : Option Addr) (len cap : Nat) (left : Int) (w : World) (hl : 0 ≤ left) (hh : left ≤ 1048576) (hm : len ≤ 9223372036854775807) :
    Calls Try.prog 124 #[.agg #[.int .i64 a, .int .i64 h, .slice y len cap], .int .i64 left] w fun e w' => e = .returned (.int .i64 (szZ left len)) ∧ Below w.heap.size w w' := by
  have hb := szZ_bd left len hl
  by_cases hn : szZ left len < 0
  · have e : Hid (szZ left len = -1) := by unfold Hid; omega
    go_enter Try.func124, Try.ntmps124
    go_wp2_with (go_at_call 112; refine (szIntS_any _ _ _ _ _ hl hh hm).mono ?_; rintro e w1 ⟨rfl, rfl⟩)
    go_ret
    exact ⟨ret_int e.out.symm, (by repeat (first | exact Below.refl _ _ | assumption | refine Below.drew ?_ | refine below_drewN ?_ _ | refine Below.alloc' ?_ _ | (refine Below.setCell ?_ (by first | omega | (simp; done) | (simp; omega) | exact Below.size (by assumption) | exact Nat.le_trans (Below.size (by assumption)) (by simp)) _) | (refine Below.via' ?_ (by assumption)) | (refine Below.alloc ?_ (by first | omega | (simp; done) | (simp; omega) | exact Below.size (by assumption) | exact Nat.le_trans (Below.size (by assumption)) (by simp)) _) | (refine Below.via ?_ (by assumption) (by first | omega | (simp; done) | (simp; omega) | exact Below.size (by assumption) | exact Nat.le_trans (Below.size (by assumption)) (by simp)))))⟩
  · go_enter Try.func124, Try.ntmps124
    go_wp2_with (go_at_call 112; refine (szIntS_any _ _ _ _ _ hl hh hm).mono ?_; rintro e w1 ⟨rfl, rfl⟩)
    go_ret
    exact ⟨rfl, (by repeat (first | exact Below.refl _ _ | assumption | refine Below.drew ?_ | refine below_drewN ?_ _ | refine Below.alloc' ?_ _ | (refine Below.setCell ?_ (by first | omega | (simp; done) | (simp; omega) | exact Below.size (by assumption) | exact Nat.le_trans (Below.size (by assumption)) (by simp)) _) | (refine Below.via' ?_ (by assumption)) | (refine Below.alloc ?_ (by first | omega | (simp; done) | (simp; omega) | exact Below.size (by assumption) | exact Nat.le_trans (Below.size (by assumption)) (by simp)) _) | (refine Below.via ?_ (by assumption) (by first | omega | (simp; done) | (simp; omega) | exact Below.size (by assumption) | exact Nat.le_trans (Below.size (by assumption)) (by simp)))))⟩

/-- How many values all records have. -/
def tot (Q : List PR) : Nat := (Q.map fun q => q.L.length).sum
theorem tot_snoc (Q : List PR) (q : PR) : tot (Q ++ [q]) = tot Q + q.L.length := by unfold tot; simp
theorem tot_mem {Q : List PR} {q : PR} (h : q ∈ Q) : q.L.length ≤ tot Q := by
  induction Q with
  | nil => cases h
  | cons p r ih =>
    unfold tot at ih ⊢
    rw [List.map_cons, List.sum_cons]
    rcases List.mem_cons.1 h with rfl | h
    · omega
    · have := ih h
      omega
theorem tot_take {Q : List PR} {i : Nat} {q : PR} (h : Q[i]? = some q) : tot (Q.take (i + 1)) = tot (Q.take i) + q.L.length := by rw [take_snoc h, tot_snoc]
/-- What a size of records says. -/
def SzPostR (left : Int) (Q : List PR) (w : World) (e : Ending) (w' : World) : Prop :=
  ∃ r : Int, e = .returned (.int .i64 r) ∧ r ≤ left ∧ -1 ≤ r ∧ (0 ≤ r → r + Q.length + tot Q = left) ∧ Below w.heap.size w w'
set_option maxHeartbeats 1000000 in
theorem szRecordS_any (x : Option Addr) (cap : Nat) (Q : List PR) (left : Int) (w : World) (hl : 0 ≤ left) (h : left ≤ 1048576) (hm : Q.length ≤ 9223372036854775807) (hn : ∀ q ∈ Q, q.L.length ≤ 9223372036854775807) (hS : Rd w x (pC Q)) :
    Calls Try.prog 50 #[.slice x Q.length cap, .int .i64 left] w (SzPostR left Q w) := by
  have hnh := Lib.hid hn
  clear hn
  by_cases k : left < Q.length
  · clear hS
    go_enter Try.func50, Try.ntmps50
    go_wp2
    go_ret
    exact ⟨-1, rfl, by omega, by omega, fun h => by omega, (by repeat (first | exact Below.refl _ _ | assumption | refine Below.drew ?_ | refine below_drewN ?_ _ | refine Below.alloc' ?_ _ | (refine Below.setCell ?_ (by first | omega | (simp; done) | (simp; omega) | exact Below.size (by assumption) | exact Nat.le_trans (Below.size (by assumption)) (by simp)) _) | (refine Below.via' ?_ (by assumption)) | (refine Below.alloc ?_ (by first | omega | (simp; done) | (simp; omega) | exact Below.size (by assumption) | exact Nat.le_trans (Below.size (by assumption)) (by simp)) _) | (refine Below.via ?_ (by assumption) (by first | omega | (simp; done) | (simp; omega) | exact Below.size (by assumption) | exact Nat.le_trans (Below.size (by assumption)) (by simp)))))⟩
  go_enter Try.func50, Try.ntmps50
  go_wp2
  go_loopw [1, 5] (fun q c wr => ∃ (i : Nat) (r : Int), i ≤ Q.length ∧ c = .int .i64 i ∧ q = .int .i64 r ∧ 0 ≤ r ∧ r ≤ left ∧ Hid (r + Q.length + tot (Q.take i) = left) ∧ Below w.heap.size w wr) (fun _ c _ => Q.length - (intOf c).toNat)
  case atStart => exact ⟨0, _, by omega, rfl, rfl, by omega, by omega, (by unfold Hid; simp [tot]), Below.refl _ _⟩
  case round =>
    obtain ⟨i, r, hi, rfl, rfl, h0, h1, hall, hb⟩ := hrel
    by_cases hlt : i < Q.length
    · obtain ⟨bl, off, q, rfl, hbl, hSi, hc0, hc1, hc2⟩ := (hS.below hb).rec hlt
      have hnm := hnh.out _ (List.mem_of_getElem? hSi)
      have hSi := Lib.hid hSi
      clear hS
      have hlt' : (i : Int) < (Q.length : Int) := by omega
      have hbd := szZ_bd r q.L.length h0
      by_cases hneg : szZ r q.L.length < 0
      · go_wp2_with (go_at_call 124; refine (szRecord_any _ _ _ _ _ _ _ (by omega) (by omega) (by omega)).mono ?_; rintro e w2 ⟨rfl, hb2⟩; obtain ⟨hcl2, hfr2⟩ := bcell hb2; have hz2 := hb2.size; (try simp at hz2); (try (have hly2 := Nat.lt_of_succ_le hz2)); (try (have hlx2 := Nat.lt_of_succ_lt hly2)); (try (have hlw2 := Nat.lt_of_succ_lt hlx2)); (try (have hle2 := Nat.le_of_lt hly2)); (try (have hya2 : w.heap.size < w2.heap.size := by omega)); (try (have hyb2 : w.heap.size + 1 < w2.heap.size := by omega)); (try (have hyc2 : w.heap.size + 1 + 1 < w2.heap.size := by omega)); (try (have hyd2 : wa.heap.size < w2.heap.size := by omega)))
        go_ret
        exact ⟨-1, rfl, by omega, by omega, fun h => by omega, (by repeat (first | exact Below.refl _ _ | assumption | refine Below.drew ?_ | refine below_drewN ?_ _ | refine Below.alloc' ?_ _ | (refine Below.setCell ?_ (by first | omega | (simp; done) | (simp; omega) | exact Below.size (by assumption) | exact Nat.le_trans (Below.size (by assumption)) (by simp)) _) | (refine Below.via' ?_ (by assumption)) | (refine Below.alloc ?_ (by first | omega | (simp; done) | (simp; omega) | exact Below.size (by assumption) | exact Nat.le_trans (Below.size (by assumption)) (by simp)) _) | (refine Below.via ?_ (by assumption) (by first | omega | (simp; done) | (simp; omega) | exact Below.size (by assumption) | exact Nat.le_trans (Below.size (by assumption)) (by simp)))))⟩
      · have hle : szZ r q.L.length = r - q.L.length := by
          unfold szZ at hneg ⊢
          split at hneg
          · omega
          · rw [if_neg (by assumption)]
        have hlh := Lib.hid hle
        clear hle
        go_wp2_with (go_at_call 124; refine (szRecord_any _ _ _ _ _ _ _ (by omega) (by omega) (by omega)).mono ?_; rintro e w2 ⟨rfl, hb2⟩; obtain ⟨hcl2, hfr2⟩ := bcell hb2; have hz2 := hb2.size; (try simp at hz2); (try (have hly2 := Nat.lt_of_succ_le hz2)); (try (have hlx2 := Nat.lt_of_succ_lt hly2)); (try (have hlw2 := Nat.lt_of_succ_lt hlx2)); (try (have hle2 := Nat.le_of_lt hly2)); (try (have hya2 : w.heap.size < w2.heap.size := by omega)); (try (have hyb2 : w.heap.size + 1 < w2.heap.size := by omega)); (try (have hyc2 : w.heap.size + 1 + 1 < w2.heap.size := by omega)); (try (have hyd2 : wa.heap.size < w2.heap.size := by omega)))
        go_roundw
        case rel =>
          refine ⟨i + 1, _, by omega, by go_num, rfl, by omega, by omega, ?_, (by repeat (first | exact Below.refl _ _ | assumption | refine Below.drew ?_ | refine below_drewN ?_ _ | refine Below.alloc' ?_ _ | (refine Below.setCell ?_ (by first | omega | (simp; done) | (simp; omega) | exact Below.size (by assumption) | exact Nat.le_trans (Below.size (by assumption)) (by simp)) _) | (refine Below.via' ?_ (by assumption)) | (refine Below.alloc ?_ (by first | omega | (simp; done) | (simp; omega) | exact Below.size (by assumption) | exact Nat.le_trans (Below.size (by assumption)) (by simp)) _) | (refine Below.via ?_ (by assumption) (by first | omega | (simp; done) | (simp; omega) | exact Below.size (by assumption) | exact Nat.le_trans (Below.size (by assumption)) (by simp)))))⟩
          have := hall.out
          have := hlh.out
          unfold Hid
          rw [tot_take hSi.out]
          omega
        case measure => simp [intOf]; omega
    · have hij : i = Q.length := by omega
      subst hij
      clear hS
      go_wp2
      go_ret
      refine ⟨r, rfl, by omega, by omega, fun _ => ?_, hb⟩
      have := hall.out
      rwa [List.take_length] at this

/-- A record that the law has copied. -/
def RcPost (a h : Int) (G : List Int) (w : World) (e : Ending) (w' : World) : Prop :=
  ∃ g, e = .returned (.agg #[.int .i64 a, .int .i64 h, .slice (some ⟨g, 0, none⟩) G.length G.length]) ∧ OwR w' w.heap.size w'.heap.size 3 1 (.slice (some ⟨g, 0, none⟩) G.length G.length) G.length (iC G) ∧ Below w.heap.size w w'
set_option maxHeartbeats 1000000 in
theorem toRecord_any (a h : Int) (y : Option Addr) (cap : Nat) (G : List Int) (w : World) (hm : G.length ≤ 1048576) (hG : Rd w y (iC G)) :
    Calls Try.prog 127 #[.agg #[.int .i64 a, .int .i64 h, .slice y G.length cap]] w (RcPost a h G w) := by
  have hGh := Lib.hid hG
  clear hG
  go_enter Try.func127, Try.ntmps127
  go_wp2_with fail
  refine (toIntS_any _ _ _ _ hm (hGh.out.below (by exact (by repeat (first | exact Below.refl _ _ | assumption | refine Below.drew ?_ | refine below_drewN ?_ _ | refine Below.alloc' ?_ _ | (refine Below.setCell ?_ (by first | omega | (simp; done) | (simp; omega) | exact Below.size (by assumption) | exact Nat.le_trans (Below.size (by assumption)) (by simp)) _) | (refine Below.via' ?_ (by assumption)) | (refine Below.alloc ?_ (by first | omega | (simp; done) | (simp; omega) | exact Below.size (by assumption) | exact Nat.le_trans (Below.size (by assumption)) (by simp)) _) | (refine Below.via ?_ (by assumption) (by first | omega | (simp; done) | (simp; omega) | exact Below.size (by assumption) | exact Nat.le_trans (Below.size (by assumption)) (by simp)))))))).mono ?_
  rintro e w1 ⟨rfl, ho1, hb1⟩
  obtain ⟨hcl1, hfr1⟩ := bcell hb1
  have hz1 := hb1.size; (try simp at hz1); (try (have hly1 := Nat.lt_of_succ_le hz1)); (try (have hlx1 := Nat.lt_of_succ_lt hly1)); (try (have hlw1 := Nat.lt_of_succ_lt hlx1)); (try (have hle1 := Nat.le_of_lt hly1))
  have hoh := Lib.hid ho1
  clear ho1
  go_wp2
  refine bodyPost_ret (v := .agg #[.int .i64 a, .int .i64 h, .slice (some ⟨w.heap.size + 1 + 1 + 1, 0, none⟩) G.length G.length]) (by simp [results, Try.results127, go_sem, *]) rfl ⟨_, rfl, OwR.of ?_, ?_⟩
  · have ho2 : w1.ownsRow (w.heap.size + 1 + 1 + 1) 3 1 (.slice (some ⟨w.heap.size + 1 + 1 + 1, 0, none⟩) G.length G.length) G.length (iC G) := by simpa using hoh.out
    refine own_more (base := w.heap.size + 1 + 1 + 1) ?_ (by omega)
    repeat (refine ownsRow_setCell_below ?_ (by simp; try omega) _)
    exact ho2
  · exact (by repeat (first | exact Below.refl _ _ | assumption | refine Below.drew ?_ | refine below_drewN ?_ _ | refine Below.alloc' ?_ _ | (refine Below.setCell ?_ (by first | omega | (simp; done) | (simp; omega) | exact Below.size (by assumption) | exact Nat.le_trans (Below.size (by assumption)) (by simp)) _) | (refine Below.via' ?_ (by assumption)) | (refine Below.alloc ?_ (by first | omega | (simp; done) | (simp; omega) | exact Below.size (by assumption) | exact Nat.le_trans (Below.size (by assumption)) (by simp)) _) | (refine Below.via ?_ (by assumption) (by first | omega | (simp; done) | (simp; omega) | exact Below.size (by assumption) | exact Nat.le_trans (Below.size (by assumption)) (by simp)))))

theorem OwV.snoc {w : World} {lo mid hi : Nat} {ti : TypeId} {T : List PR} {q : PR} (h : OwV w lo mid ti T) (hq : OwR w mid hi ti 1 q.v q.L.length (iC q.L)) (h1 : lo ≤ mid) (h2 : mid ≤ hi) : OwV w lo hi ti (T ++ [q]) := by
  refine ⟨fun p hp => ?_, ?_⟩
  · rcases List.mem_append.1 hp with hp | hp
    · exact (h.1 p hp).more (Nat.le_refl _) h2
    · rw [List.mem_singleton] at hp
      subst hp
      exact hq.more h1 (Nat.le_refl _)
  · rw [List.filterMap_append, List.nodup_append]
    refine ⟨h.2, ?_, fun a ha b hb => ?_⟩
    · simp only [List.filterMap_cons, List.filterMap_nil]
      split <;> simp
    · obtain ⟨p, hp, e⟩ := List.mem_filterMap.1 ha
      obtain ⟨p2, hp2, e2⟩ := List.mem_filterMap.1 hb
      rw [List.mem_singleton] at hp2
      subst hp2
      have := (h.1 p hp).2 a e
      have := hq.2 b e2
      omega
theorem pC_snoc_at {T : List PR} {q : PR} {xs : List Value} {i n : Nat} (hT : T.length = i) (hi : i < n) (hl : xs.length = n * 3) (hd : ∀ j, j < i * 3 → xs[j]? = (pC T)[j]?) :
    ∀ j, j < (i + 1) * 3 → (((xs.set (i * 3) (.int .i64 q.a)).set (i * 3 + 1) (.int .i64 q.h)).set (i * 3 + 2) q.v)[j]? = (pC (T ++ [q]))[j]? := by
  intro j hj
  have hq : (T ++ [q])[i]? = some q := by subst hT; simp
  rw [List.getElem?_set, List.getElem?_set, List.getElem?_set]
  simp only [List.length_set]
  by_cases e2 : i * 3 + 2 = j
  · subst e2; rw [if_pos rfl, if_pos (by omega), pC_at2 hq]
  by_cases e1 : i * 3 + 1 = j
  · subst e1; rw [if_neg e2, if_pos rfl, if_pos (by omega), pC_at1 hq]
  by_cases e0 : i * 3 = j
  · subst e0; rw [if_neg e2, if_neg e1, if_pos rfl, if_pos (by omega), pC_at0 hq]
  · rw [if_neg e2, if_neg e1, if_neg e0, hd j (by omega), pC_app, List.getElem?_append_left (by rw [pC_len]; omega)]

/-- A list of records that the law has copied. -/
def DcPost (Q : List PR) (w : World) (e : Ending) (w' : World) : Prop :=
  ∃ T : List PR, e = .returned (.slice (some ⟨w.heap.size, 0, none⟩) T.length T.length) ∧ pM T = pM Q ∧ OwD w' w.heap.size w'.heap.size 140 3 (.slice (some ⟨w.heap.size, 0, none⟩) T.length T.length) T ∧ Below w.heap.size w w'
set_option maxHeartbeats 2000000 in
theorem toRecordS_any (x : Option Addr) (cap : Nat) (Q : List PR) (w : World) (hm : Q.length ≤ 1048576) (hQ : ∀ q ∈ Q, q.L.length ≤ 1048576 ∧ Rd w q.x (iC q.L)) (hS : Rd w x (pC Q)) :
    Calls Try.prog 52 #[.slice x Q.length cap] w (DcPost Q w) := by
  obtain ⟨i0, hi, hz0, hz1, hz2⟩ := info_parts Try.infoRec
  have hbb : i0.bytes * Q.length ≤ 281474976710656 := by rw [hz2]; omega
  have hmm : Q.length ≤ maxLen := by unfold maxLen; omega
  have hQh := Lib.hid hQ
  clear hQ
  go_enter Try.func52, Try.ntmps52
  go_wp2_with (at_make; go_loud (refine wpList_make_full _ rfl _ _ 71 rfl w.heap.size 140 i0 (.agg #[.int .i64 0, .int .i64 0, .slice none 0 0]) 3 Try.underlying71 hi hz0 hz1 .i64 .i64 _ _ Q.length rfl rfl rfl rfl hbb hmm (Nat.le_refl _) (fun w1 hown hgrow => ?_)))
  have hb1 : Below w.heap.size w w1 := (Below.refl _ _).grown hgrow (Nat.le_refl _) (by intro k hk; cases hk)
  have hs1 : w.heap.size + 1 ≤ w1.heap.size := (own_lt hown).2
  clear hgrow hi hz0 hz1 hz2
  go_loopw [4] (fun c wr => ∃ (i : Nat) (xs : List Value) (T : List PR), i ≤ Q.length ∧ c = .int .i64 i ∧ wr.ownsRow w.heap.size 140 3 (.slice (some ⟨w.heap.size, 0, none⟩) Q.length Q.length) Q.length xs ∧ Hid (∀ j, j < i * 3 → xs[j]? = (pC T)[j]?) ∧ Hid (pM T = (pM Q).take i ∧ T.length = i) ∧ Hid (OwV wr (w.heap.size + 1) wr.heap.size 3 T) ∧ w.heap.size + 1 ≤ wr.heap.size ∧ Below w.heap.size w wr) (fun c _ => Q.length - (intOf c).toNat)
  case atStart => exact ⟨0, _, [], by omega, rfl, hown, (fun j hj => absurd hj (by omega)), ⟨by simp [pM], rfl⟩, ⟨fun q hq => by simp at hq, by simp⟩, hs1, hb1⟩
  case round =>
    clear hown hb1 hs1
    obtain ⟨i, xs, T, hi, rfl, hown, hdone, hT, hV, hsz, hb⟩ := hrel
    by_cases hlt : i < Q.length
    · obtain ⟨bl, off, q, rfl, hbl, hSi, hc0, hc1, hc2⟩ := (hS.below hb).rec hlt
      obtain ⟨hq1, hq2⟩ := hQh.out q (List.mem_of_getElem? hSi)
      have hq2 := Lib.hid (hq2.below hb)
      obtain ⟨u0, hu0, k0⟩ := own_cell hown (j := i * 3) (by omega)
      obtain ⟨u1, hu1, k1⟩ := own_cell hown (j := i * 3 + 1) (by omega)
      obtain ⟨u2, hu2, k2⟩ := own_cell hown (j := i * 3 + 2) (by omega)
      have f0 := hown.frozenAt (i * 3)
      have f1 := hown.frozenAt (i * 3 + 1)
      have f2 := hown.frozenAt (i * 3 + 2)
      have k4 := (own_lt hown).2
      replace hu0 := Lib.hid hu0
      replace hu1 := Lib.hid hu1
      replace hu2 := Lib.hid hu2
      replace hSi := Lib.hid hSi
      have hoh := Lib.hid hown
      have hlt' : (i : Int) < (Q.length : Int) := by omega
      clear hS hown
      go_wp2_with fail
      refine (toRecord_any _ _ _ _ _ _ hq1 (hq2.out.below (by exact (by repeat (first | exact Below.refl _ _ | assumption | refine Below.drew ?_ | refine below_drewN ?_ _ | refine Below.alloc' ?_ _ | (refine Below.setCell ?_ (by first | omega | (simp; done) | (simp; omega) | exact Below.size (by assumption) | exact Nat.le_trans (Below.size (by assumption)) (by simp)) _) | (refine Below.via' ?_ (by assumption)) | (refine Below.alloc ?_ (by first | omega | (simp; done) | (simp; omega) | exact Below.size (by assumption) | exact Nat.le_trans (Below.size (by assumption)) (by simp)) _) | (refine Below.via ?_ (by assumption) (by first | omega | (simp; done) | (simp; omega) | exact Below.size (by assumption) | exact Nat.le_trans (Below.size (by assumption)) (by simp)))))))).mono ?_
      rintro e w2 ⟨g, rfl, ho2, hb2⟩
      obtain ⟨hcl2, hfr2⟩ := bcell hb2
      have hz2 := hb2.size; (try simp at hz2); (try (have hly2 := Nat.lt_of_succ_le hz2)); (try (have hlx2 := Nat.lt_of_succ_lt hly2)); (try (have hlw2 := Nat.lt_of_succ_lt hlx2)); (try (have hle2 := Nat.le_of_lt hly2))
      have ho2h := Lib.hid ho2
      clear ho2
      go_wp2
      go_roundw
      case rel =>
        have st0 := (own_below hoh.out hb2).stored (i * 3) (.int .i64 q.a)
        have st1 := st0.1.stored (i * 3 + 1) (.int .i64 q.h)
        have st2 := st1.1.stored (i * 3 + 2) (PR.v ⟨q.a, q.h, some ⟨g, 0, none⟩, q.L.length, q.L⟩)
        have hoff := ((Off.of_grown (lo := w.heap.size) (hi := w.heap.size + 1) st0.2 (by intro k hk; injection hk with hk; omega)).trans (Off.of_grown st1.2 (by intro k hk; injection hk with hk; omega))).trans (Off.of_grown st2.2 (by intro k hk; injection hk with hk; omega))
        refine ⟨i + 1, _, T ++ [⟨q.a, q.h, some ⟨g, 0, none⟩, q.L.length, q.L⟩], by omega, by go_num, st2.1, (by exact pC_snoc_at (q := ⟨q.a, q.h, some ⟨g, 0, none⟩, q.L.length, q.L⟩) hT.out.2 hlt hoh.out.1 hdone.out), ?_, ?_, ?_, (by repeat (first | exact Below.refl _ _ | assumption | refine Below.drew ?_ | refine below_drewN ?_ _ | refine Below.alloc' ?_ _ | (refine Below.setCell ?_ (by first | omega | (simp; done) | (simp; omega) | exact Below.size (by assumption) | exact Nat.le_trans (Below.size (by assumption)) (by simp)) _) | (refine Below.via' ?_ (by assumption)) | (refine Below.alloc ?_ (by first | omega | (simp; done) | (simp; omega) | exact Below.size (by assumption) | exact Nat.le_trans (Below.size (by assumption)) (by simp)) _) | (refine Below.via ?_ (by assumption) (by first | omega | (simp; done) | (simp; omega) | exact Below.size (by assumption) | exact Nat.le_trans (Below.size (by assumption)) (by simp)))))⟩
        · refine ⟨?_, by simp [hT.out.2]⟩
          rw [pM_app, hT.out.1, take_snoc (pM_at hSi.out)]
          rfl
        · refine OwV.off (lo2 := w.heap.size) (hi2 := w.heap.size + 1) ?_ hoff (Or.inr (by omega))
          exact (((hV.out.below hb2).snoc ho2h.out (by omega) (by omega))).more (Nat.le_refl _) (by simp)
        · simp; omega
      case measure => simp [intOf]; omega
    · have hij : i = Q.length := by omega
      subst hij
      have hxs : xs = pC T := pC_ext hown.1 hT.out.2 hdone.out
      subst hxs
      have hTl := hT.out.2
      have hTm : Hid (pM T = pM Q) := by have := hT.out.1; unfold Hid; rwa [← pM_len Q, List.take_length] at this
      have hres : Hid (OwD wr w.heap.size wr.heap.size 140 3 (.slice (some ⟨w.heap.size, 0, none⟩) T.length T.length) T) := by
        rw [hTl]
        refine ⟨?_, hV.out.more (by omega) (Nat.le_refl _), fun q hq k hk e => ?_⟩
        · rw [hTl]; exact OwR.of hown
        · have := (hV.out.1 q hq).2 k e
          injection hk with hk
          simp at hk
          omega
      clear hS hdone hown hV hT
      rw [← hTl]
      go_wp2
      go_ret
      exact ⟨T, rfl, hTm.out, hres.out, hb⟩

theorem eqRecord_any (a h : Int) (x y : Option Addr) (c1 c2 : Nat) (G : List Int) (w : World) (hm : G.length ≤ 9223372036854775807) (hx : Rd w x (iC G)) (hy : Rd w y (iC G)) :
    Calls Try.prog 130 #[.agg #[.int .i64 a, .int .i64 h, .slice x G.length c1], .agg #[.int .i64 a, .int .i64 h, .slice y G.length c2]] w fun e w' => e = .returned (.bool true) ∧ Below w.heap.size w w' := by
  have hxh := Lib.hid hx
  have hyh := Lib.hid hy
  clear hx hy
  go_enter Try.func130, Try.ntmps130
  go_wp2_with (go_at_call 47; refine (eqIntS_any _ _ _ _ _ _ hm (hxh.out.below (by exact (by repeat (first | exact Below.refl _ _ | assumption | refine Below.drew ?_ | refine below_drewN ?_ _ | refine Below.alloc' ?_ _ | (refine Below.setCell ?_ (by first | omega | (simp; done) | (simp; omega) | exact Below.size (by assumption) | exact Nat.le_trans (Below.size (by assumption)) (by simp)) _) | (refine Below.via' ?_ (by assumption)) | (refine Below.alloc ?_ (by first | omega | (simp; done) | (simp; omega) | exact Below.size (by assumption) | exact Nat.le_trans (Below.size (by assumption)) (by simp)) _) | (refine Below.via ?_ (by assumption) (by first | omega | (simp; done) | (simp; omega) | exact Below.size (by assumption) | exact Nat.le_trans (Below.size (by assumption)) (by simp))))))) (hyh.out.below (by exact (by repeat (first | exact Below.refl _ _ | assumption | refine Below.drew ?_ | refine below_drewN ?_ _ | refine Below.alloc' ?_ _ | (refine Below.setCell ?_ (by first | omega | (simp; done) | (simp; omega) | exact Below.size (by assumption) | exact Nat.le_trans (Below.size (by assumption)) (by simp)) _) | (refine Below.via' ?_ (by assumption)) | (refine Below.alloc ?_ (by first | omega | (simp; done) | (simp; omega) | exact Below.size (by assumption) | exact Nat.le_trans (Below.size (by assumption)) (by simp)) _) | (refine Below.via ?_ (by assumption) (by first | omega | (simp; done) | (simp; omega) | exact Below.size (by assumption) | exact Nat.le_trans (Below.size (by assumption)) (by simp)))))))).mono ?_; rintro e w1 ⟨rfl, hb1⟩; obtain ⟨hcl1, hfr1⟩ := bcell hb1; have hz1 := hb1.size; (try simp at hz1); (try (have hly1 := Nat.lt_of_succ_le hz1)); (try (have hlx1 := Nat.lt_of_succ_lt hly1)); (try (have hlw1 := Nat.lt_of_succ_lt hlx1)); (try (have hle1 := Nat.le_of_lt hly1)); (try (have hya1 : w.heap.size < w1.heap.size := by omega)); (try (have hyb1 : w.heap.size + 1 < w1.heap.size := by omega)); (try (have hyc1 : w.heap.size + 1 + 1 < w1.heap.size := by omega)); (try (have hyd1 : wa.heap.size < w1.heap.size := by omega)))
  go_ret
  exact ⟨rfl, (by repeat (first | exact Below.refl _ _ | assumption | refine Below.drew ?_ | refine below_drewN ?_ _ | refine Below.alloc' ?_ _ | (refine Below.setCell ?_ (by first | omega | (simp; done) | (simp; omega) | exact Below.size (by assumption) | exact Nat.le_trans (Below.size (by assumption)) (by simp)) _) | (refine Below.via' ?_ (by assumption)) | (refine Below.alloc ?_ (by first | omega | (simp; done) | (simp; omega) | exact Below.size (by assumption) | exact Nat.le_trans (Below.size (by assumption)) (by simp)) _) | (refine Below.via ?_ (by assumption) (by first | omega | (simp; done) | (simp; omega) | exact Below.size (by assumption) | exact Nat.le_trans (Below.size (by assumption)) (by simp)))))⟩
theorem pM_get {Q T : List PR} (h : pM T = pM Q) {i : Nat} {q t : PR} (hq : Q[i]? = some q) (ht : T[i]? = some t) : t.a = q.a ∧ t.h = q.h ∧ t.L = q.L := by
  have e := Option.some.inj ((pM_at ht).symm.trans (h ▸ pM_at hq))
  unfold PR.m at e
  injection e with e1 e2
  injection e2 with e2 e3
  exact ⟨e1, e2, e3⟩
theorem pM_length {Q T : List PR} (h : pM T = pM Q) : T.length = Q.length := by rw [← pM_len, h, pM_len]
set_option maxHeartbeats 2000000 in
theorem eqRecordS_any (x y : Option Addr) (c1 c2 : Nat) (Q T : List PR) (w : World) (hm : Q.length ≤ 9223372036854775807) (hQ : ∀ q ∈ Q, q.L.length ≤ 9223372036854775807) (hT : pM T = pM Q) (hx : Rd w x (pC Q)) (hxi : ∀ q ∈ Q, Rd w q.x (iC q.L)) (hy : Rd w y (pC T)) (hyi : ∀ q ∈ T, Rd w q.x (iC q.L)) :
    Calls Try.prog 54 #[.slice x Q.length c1, .slice y T.length c2] w fun e w' => e = .returned (.bool true) ∧ Below w.heap.size w w' := by
  have hTl := pM_length hT
  have hTh := Lib.hid hT
  have hQh := Lib.hid hQ
  have hxh := Lib.hid hxi
  have hyh := Lib.hid hyi
  have hyr := Lib.hid hy
  clear hT hQ hxi hyi hy
  rw [hTl]
  replace hTl := Lib.hid hTl
  go_enter Try.func54, Try.ntmps54
  go_wp2
  go_loopw [5] (fun c wr => ∃ i : Nat, i ≤ Q.length ∧ c = .int .i64 i ∧ Below w.heap.size w wr) (fun c _ => Q.length - (intOf c).toNat)
  case atStart => exact ⟨0, by omega, rfl, Below.refl _ _⟩
  case round =>
    obtain ⟨i, hi, rfl, hb⟩ := hrel
    by_cases hlt : i < Q.length
    · obtain ⟨bl, off, q, rfl, hbl, hSi, hc0, hc1, hc2⟩ := (hx.below hb).rec hlt
      obtain ⟨bl2, off2, ⟨ta, th, tx, tc, tL⟩, rfl, hbl2, hSi2, hc3, hc4, hc5⟩ := (hyr.out.below hb).rec (i := i) (by have := hTl.out; omega)
      obtain ⟨e1, e2, e3⟩ := pM_get hTh.out hSi hSi2
      simp only at e1 e2 e3 hc3 hc4 hc5
      subst e1 e2 e3
      have hl := hQh.out q (List.mem_of_getElem? hSi)
      have r1 := Lib.hid ((hxh.out q (List.mem_of_getElem? hSi)).below hb)
      have r2 := Lib.hid ((hyh.out _ (List.mem_of_getElem? hSi2)).below hb)
      clear hx hyr hSi hSi2
      have hlt' : (i : Int) < (Q.length : Int) := by omega
      have hi0 : (0 : Int) ≤ (i : Int) := by omega
      go_wp2
      go_region_held3 (fun w' => Below (wr).heap.size (wr) w' ∧ (∀ b o, b < (wr).heap.size → w'.cell? ⟨b, o, none⟩ = (wr).cell? ⟨b, o, none⟩)) (first | exact keep_of (Below.refl _ _) | ((try go_split_ands); exact keep_of (by repeat (first | exact Below.refl _ _ | assumption | refine Below.drew ?_ | refine below_drewN ?_ _ | refine Below.alloc' ?_ _ | (refine Below.setCell ?_ (by first | omega | (simp; done) | (simp; omega) | exact Below.size (by assumption) | exact Nat.le_trans (Below.size (by assumption)) (by simp)) _) | (refine Below.via' ?_ (by assumption)) | (refine Below.alloc ?_ (by first | omega | (simp; done) | (simp; omega) | exact Below.size (by assumption) | exact Nat.le_trans (Below.size (by assumption)) (by simp)) _) | (refine Below.via ?_ (by assumption) (by first | omega | (simp; done) | (simp; omega) | exact Below.size (by assumption) | exact Nat.le_trans (Below.size (by assumption)) (by simp))))))) (first | (go_at_call 130; refine (eqRecord_any _ _ _ _ _ _ q.L _ hl (r1.out.below (by exact (by repeat (first | exact Below.refl _ _ | assumption | refine Below.drew ?_ | refine below_drewN ?_ _ | refine Below.alloc' ?_ _ | (refine Below.setCell ?_ (by first | omega | (simp; done) | (simp; omega) | exact Below.size (by assumption) | exact Nat.le_trans (Below.size (by assumption)) (by simp)) _) | (refine Below.via' ?_ (by assumption)) | (refine Below.alloc ?_ (by first | omega | (simp; done) | (simp; omega) | exact Below.size (by assumption) | exact Nat.le_trans (Below.size (by assumption)) (by simp)) _) | (refine Below.via ?_ (by assumption) (by first | omega | (simp; done) | (simp; omega) | exact Below.size (by assumption) | exact Nat.le_trans (Below.size (by assumption)) (by simp))))))) (r2.out.below (by exact (by repeat (first | exact Below.refl _ _ | assumption | refine Below.drew ?_ | refine below_drewN ?_ _ | refine Below.alloc' ?_ _ | (refine Below.setCell ?_ (by first | omega | (simp; done) | (simp; omega) | exact Below.size (by assumption) | exact Nat.le_trans (Below.size (by assumption)) (by simp)) _) | (refine Below.via' ?_ (by assumption)) | (refine Below.alloc ?_ (by first | omega | (simp; done) | (simp; omega) | exact Below.size (by assumption) | exact Nat.le_trans (Below.size (by assumption)) (by simp)) _) | (refine Below.via ?_ (by assumption) (by first | omega | (simp; done) | (simp; omega) | exact Below.size (by assumption) | exact Nat.le_trans (Below.size (by assumption)) (by simp)))))))).mono ?_; rintro e w2 ⟨rfl, hb2⟩)); rename_i hH; obtain ⟨hb2, hcl2⟩ := hH; have hz2 := hb2.size; (try simp at hz2); (try (have hly2 := Nat.lt_of_succ_le hz2)); (try (have hlx2 := Nat.lt_of_succ_lt hly2)); (try (have hlw2 := Nat.lt_of_succ_lt hlx2)); (try (have hle2 := Nat.le_of_lt hly2)); (try (have hya2 : w.heap.size < w2.heap.size := by omega)); (try (have hyb2 : w.heap.size + 1 < w2.heap.size := by omega)); (try (have hyc2 : w.heap.size + 1 + 1 < w2.heap.size := by omega)); (try (have hyd2 : wa.heap.size < w2.heap.size := by omega))
      go_wp2
      go_roundw
      case rel => exact ⟨i + 1, by omega, by go_num, (by repeat (first | exact Below.refl _ _ | assumption | refine Below.drew ?_ | refine below_drewN ?_ _ | refine Below.alloc' ?_ _ | (refine Below.setCell ?_ (by first | omega | (simp; done) | (simp; omega) | exact Below.size (by assumption) | exact Nat.le_trans (Below.size (by assumption)) (by simp)) _) | (refine Below.via' ?_ (by assumption)) | (refine Below.alloc ?_ (by first | omega | (simp; done) | (simp; omega) | exact Below.size (by assumption) | exact Nat.le_trans (Below.size (by assumption)) (by simp)) _) | (refine Below.via ?_ (by assumption) (by first | omega | (simp; done) | (simp; omega) | exact Below.size (by assumption) | exact Nat.le_trans (Below.size (by assumption)) (by simp)))))⟩
      case measure => simp [intOf]; omega
    · have hij : i = Q.length := by omega
      subst hij
      clear hx hyr
      go_wp2
      go_ret
      exact ⟨rfl, hb⟩
end Go.Proofs.Ytnmpigedhpdenab
