/-
  Texts of data: plain mathematics, and the model's walk.
-/
import Derived.Test.YtelnbjhnjcbjoaaDoorRecI
import Derived.Test.YtelnbjhnjcbjoaaDoorRecL
import Derived.Test.YtelnbjhnjcbjoaaDoorText
namespace Go.Proofs.YtelnbjhnjcbjoaaDoor
open Go.RowKit
set_option maxRecDepth 100000

theorem numZ_one {i : Nat} (h : i < 10) : (numZ i).size = 1 := by rw [numZ_small (by omega) (by omega), byteT_len]
theorem numZ_2d {i : Nat} (h : i < 100) : (numZ i).size ≤ 2 := by
  by_cases h1 : i < 10
  · rw [numZ_one h1]; omega
  · rw [numZ_big (by omega), numZ_small (by omega) (by omega), ByteArray.size_append, byteT_len, byteT_len]; omega
theorem numZ_3d {i : Nat} (h : i < 1000) : (numZ i).size ≤ 3 := by
  by_cases h1 : i < 100
  · have := numZ_2d h1; omega
  · rw [numZ_big (by omega), show (i : Int) / 10 = ((i / 10 : Nat) : Int) by omega, ByteArray.size_append, byteT_len]
    have := numZ_2d (i := i / 10) (by omega)
    omega
/-- The beginning of a record's text; its values; the text of a record; of data. -/
def rhT (a h : Int) : ByteArray := numZ a ++ ⟨#[32]⟩ ++ numZ h ++ ⟨#[32]⟩
def vlL (L : List Int) : List UInt8 := L.flatMap fun v => (numZ v).data.toList
def rcL (q : RV) : List UInt8 := (rhT q.1 q.2.1).data.toList ++ vlL q.2.2 ++ [10]
def dtL (R : List RV) : List UInt8 := R.flatMap rcL
def dtT (R : List RV) : ByteArray := ⟨(dtL R).toArray⟩
/-- The text so far. -/
def dpT (R : List RV) (q : RV) (k : Nat) : ByteArray := ⟨(dtL R ++ (rhT q.1 q.2.1).data.toList ++ vlL (q.2.2.take k)).toArray⟩
theorem ba_size (l : List UInt8) : (⟨l.toArray⟩ : ByteArray).size = l.length := List.size_toArray ..
theorem ba_list (s : ByteArray) : s.data.toList.length = s.size := Array.length_toList
theorem dp_start (R : List RV) (q : RV) : dtT R ++ rhT q.1 q.2.1 = dpT R q 0 := by
  unfold dtT dpT
  apply ByteArray.ext
  simp [vlL]
theorem dp_next {R : List RV} {q : RV} {k : Nat} {v : Int} (h : q.2.2[k]? = some v) : dpT R q k ++ numZ v = dpT R q (k + 1) := by
  unfold dpT
  rw [take_snoc h]
  apply ByteArray.ext
  simp [vlL]
theorem dp_end {R : List RV} {i : Nat} {q : RV} (h : R[i]? = some q) : dpT (R.take i) q q.2.2.length ++ ⟨#[10]⟩ = dtT (R.take (i + 1)) := by
  unfold dpT dtT
  rw [take_snoc h, List.take_length]
  apply ByteArray.ext
  simp [dtL, rcL]
theorem rh_size {a h : Int} (ha : 0 ≤ a ∧ a ≤ 29) (hh : 0 ≤ h ∧ h ≤ 999) : (rhT a h).size ≤ 7 ∧ (numZ a).size ≤ 2 ∧ (numZ h).size ≤ 3 := by
  have h1 := numZ_2d (i := a.toNat) (by omega)
  have h2 := numZ_3d (i := h.toNat) (by omega)
  rw [show ((a.toNat : Nat) : Int) = a by omega] at h1
  rw [show ((h.toNat : Nat) : Int) = h by omega] at h2
  refine ⟨?_, h1, h2⟩
  unfold rhT
  rw [ByteArray.size_append, ByteArray.size_append, ByteArray.size_append, show (⟨#[32]⟩ : ByteArray).size = 1 from rfl]
  omega
theorem vl_size {L : List Int} (h : ∀ v ∈ L, 0 ≤ v ∧ v ≤ 7) : (vlL L).length = L.length := by
  unfold vlL
  induction L with
  | nil => rfl
  | cons a r ih =>
    have ha := h a (by simp)
    rw [List.flatMap_cons, List.length_append, ih (fun v hv => h v (List.mem_cons_of_mem _ hv)), ba_list]
    have := numZ_one (i := a.toNat) (by omega)
    rw [show ((a.toNat : Nat) : Int) = a by omega] at this
    rw [this, List.length_cons]
    omega
/-- What is known of a record of a schema. -/
theorem rok_all {S : List (ByteArray × Int)} {q : RV} (hs : schB S = true) (h : rokB S q = true) : (0 ≤ q.1 ∧ q.1 ≤ 29) ∧ (0 ≤ q.2.1 ∧ q.2.1 ≤ 999) ∧ q.2.2.length ≤ 6 ∧ ∀ v ∈ q.2.2, 0 ≤ v ∧ v ≤ 7 := by
  obtain ⟨a, b, c, d, f⟩ := rokB_get h
  have hl := fit_len f
  have hsl := (schB_len hs).2
  refine ⟨⟨a, b⟩, ⟨c, d⟩, by omega, fun v hv => ?_⟩
  obtain ⟨j, hj, rfl⟩ := List.getElem_of_mem hv
  have hS : S[j]? = some (S[j].1, S[j].2) := List.getElem?_eq_getElem (by omega)
  obtain ⟨l1, l2⟩ := schB_lv hs hS
  obtain ⟨e1, e2⟩ := fit_get f hS (List.getElem?_eq_getElem hj)
  omega
theorem rc_size {S : List (ByteArray × Int)} {q : RV} (hs : schB S = true) (h : rokB S q = true) : (rcL q).length ≤ 14 := by
  obtain ⟨h1, h2, h3, h4⟩ := rok_all hs h
  unfold rcL
  rw [List.length_append, List.length_append, vl_size h4, ba_list]
  have := (rh_size h1 h2).1
  simp
  omega
theorem dt_size {S : List (ByteArray × Int)} {R : List RV} (hs : schB S = true) (h : dokB S R = true) (i : Nat) : (dtL (R.take i)).length ≤ 560 := by
  have hl := dokB_len h
  have key : ∀ M : List RV, (∀ q ∈ M, rokB S q = true) → (dtL M).length ≤ 14 * M.length := by
    intro M hM
    unfold dtL
    induction M with
    | nil => simp
    | cons a r ih =>
      have h1 := rc_size hs (hM a (by simp))
      have h2 := ih (fun q hq => hM q (List.mem_cons_of_mem _ hq))
      rw [List.flatMap_cons, List.length_append, List.length_cons]
      omega
  have := key (R.take i) (fun q hq => dokB_mem h (List.mem_of_mem_take hq))
  rw [List.length_take] at this
  omega
theorem dp_size {S : List (ByteArray × Int)} {R : List RV} {q : RV} (hs : schB S = true) (h : dokB S R = true) (hq : rokB S q = true) (i k : Nat) : (dpT (R.take i) q k).size ≤ 600 := by
  obtain ⟨h1, h2, h3, h4⟩ := rok_all hs hq
  have hd := dt_size hs h i
  unfold dpT
  rw [ba_size, List.length_append, List.length_append, vl_size (fun v hv => h4 v (List.mem_of_mem_take hv)), ba_list, List.length_take]
  have := (rh_size h1 h2).1
  omega

set_option maxHeartbeats 8000000 in
theorem dText_any (y : Option Addr) (c : Nat) (S : List (ByteArray × Int)) (Q : List PR) (w : World) (hs : schB S = true) (hd : dokB S (pM Q) = true) (hQ : DIn w y Q) :
    Calls Tryd.prog 21 #[.slice y Q.length c] w fun e w' => e = .returned (.string (dtT (pM Q))) ∧ Below w.heap.size w w' := by
  have hQl := hQ.1
  have hQh := Lib.hid hQ
  have hsh := Lib.hid hs
  have hdh := Lib.hid hd
  have k32 : (⟨#[32]⟩ : ByteArray).size = 1 := rfl
  have k10 : (⟨#[10]⟩ : ByteArray).size = 1 := rfl
  clear hQ hs hd
  go_enter Tryd.func21, Tryd.ntmps21
  go_wp2
  go_loopw [3, 10] (fun s q wr => ∃ i : Nat, i ≤ Q.length ∧ q = .int .i64 i ∧ s = .string (dtT ((pM Q).take i)) ∧ Below w.heap.size w wr) (fun _ q _ => Q.length - (intOf q).toNat)
  case atStart => exact ⟨0, by omega, by go_num, rfl, (by repeat (first | exact Below.refl _ _ | assumption | refine Below.drew ?_ | refine below_drewN ?_ _ | refine Below.alloc' ?_ _ | (refine Below.setCell ?_ (by first | omega | (simp; done) | (simp; omega) | exact Below.size (by assumption) | exact Nat.le_trans (Below.size (by assumption)) (by simp)) _) | (refine Below.via' ?_ (by assumption)) | (refine Below.alloc ?_ (by first | omega | (simp; done) | (simp; omega) | exact Below.size (by assumption) | exact Nat.le_trans (Below.size (by assumption)) (by simp)) _) | (refine Below.via ?_ (by assumption) (by first | omega | (simp; done) | (simp; omega) | exact Below.size (by assumption) | exact Nat.le_trans (Below.size (by assumption)) (by simp)))))⟩
  case round =>
    obtain ⟨i, hi, rfl, rfl, hb⟩ := hrel
    by_cases hlt : i < Q.length
    · obtain ⟨bl, off, q, rfl, hbl, hQi, hc0, hc1, hc2⟩ := (hQh.out.2.2.below hb).rec hlt
      have hqi := Lib.hid ((hQh.out.2.1 q (List.mem_of_getElem? hQi)).2.2.below hb)
      have hm := pM_at hQi
      have hrk := dokB_mem hdh.out (List.mem_of_getElem? hm)
      obtain ⟨r1, r2, r3, r4⟩ := rok_all hsh.out hrk
      obtain ⟨z1, z2, z3⟩ := rh_size r1 r2
      have hds := dt_size hsh.out hdh.out i
      have hdp := Lib.hid (fun k => dp_size hsh.out hdh.out hrk i k)
      have r1' : 0 ≤ q.a ∧ q.a ≤ 29 := r1
      have r2' : 0 ≤ q.h ∧ q.h ≤ 999 := r2
      have r3' : q.L.length ≤ 6 := r3
      have r4' := Lib.hid (show ∀ v ∈ q.L, 0 ≤ v ∧ v ≤ 7 from r4)
      have z2' : (numZ q.a).size ≤ 2 := z2
      have z3' : (numZ q.h).size ≤ 3 := z3
      have hO : (dtT ((pM Q).take i)).size ≤ 560 := by unfold dtT; rw [ba_size]; exact hds
      have hst : Hid (dtT ((pM Q).take i) ++ (numZ q.a ++ ⟨#[32]⟩ ++ numZ q.h ++ ⟨#[32]⟩) = dpT ((pM Q).take i) q.m 0) := dp_start ((pM Q).take i) q.m
      have hen : Hid (dpT ((pM Q).take i) q.m q.L.length ++ ⟨#[10]⟩ = dtT ((pM Q).take (i + 1))) := dp_end hm
      have hlt' : (i : Int) < (Q.length : Int) := by omega
      have hi0 : (0 : Int) ≤ (i : Int) := by omega
      replace hQi := Lib.hid hQi
      replace hm := Lib.hid hm
      have hs1 : ¬ 9223372036854775807 < (numZ q.a).size + (⟨#[32]⟩ : ByteArray).size := by rw [k32]; omega
      have hs2 : ¬ 9223372036854775807 < (numZ q.a ++ ⟨#[32]⟩).size + (numZ q.h).size := by rw [ByteArray.size_append, k32]; omega
      have hs3 : ¬ 9223372036854775807 < (numZ q.a ++ ⟨#[32]⟩ ++ numZ q.h).size + (⟨#[32]⟩ : ByteArray).size := by rw [ByteArray.size_append, ByteArray.size_append, k32]; omega
      have hs4 : ¬ 9223372036854775807 < (dtT ((pM Q).take i)).size + (numZ q.a ++ ⟨#[32]⟩ ++ numZ q.h ++ ⟨#[32]⟩).size := by rw [ByteArray.size_append, ByteArray.size_append, ByteArray.size_append, k32]; omega
      have hs5 : ¬ 9223372036854775807 < (numZ q.a).size + 1 := by omega
      have hs6 : ¬ 9223372036854775807 < (numZ q.a).size + 1 + (numZ q.h).size := by omega
      have hs7 : ¬ 9223372036854775807 < (numZ q.a).size + 1 + (numZ q.h).size + 1 := by omega
      have hs8 : ¬ 9223372036854775807 < (dtT ((pM Q).take i)).size + ((numZ q.a).size + 1 + (numZ q.h).size + 1) := by omega
      clear r1 r2 r3 r4 z1 z2 z3 hds hrk
      have hR0 := Lib.hid (RB.new wr q.a q.h q.x q.L.length q.c 51)
      go_wp2_with fail
      go_region_held3 (fun w' => Below (wr.alloc (.cells #[.int .i64 q.a, .int .i64 q.h, .slice q.x q.L.length q.c] 51)).heap.size (wr.alloc (.cells #[.int .i64 q.a, .int .i64 q.h, .slice q.x q.L.length q.c] 51)) w' ∧ (∀ b o, b < (wr.alloc (.cells #[.int .i64 q.a, .int .i64 q.h, .slice q.x q.L.length q.c] 51)).heap.size → w'.cell? ⟨b, o, none⟩ = (wr.alloc (.cells #[.int .i64 q.a, .int .i64 q.h, .slice q.x q.L.length q.c] 51)).cell? ⟨b, o, none⟩)) (first | exact keep_of (Below.refl _ _) | ((try go_split_ands); exact keep_of (by repeat (first | exact Below.refl _ _ | assumption | refine Below.drew ?_ | refine below_drewN ?_ _ | refine Below.alloc' ?_ _ | (refine Below.setCell ?_ (by first | omega | (simp; done) | (simp; omega) | exact Below.size (by assumption) | exact Nat.le_trans (Below.size (by assumption)) (by simp)) _) | (refine Below.via' ?_ (by assumption)) | (refine Below.alloc ?_ (by first | omega | (simp; done) | (simp; omega) | exact Below.size (by assumption) | exact Nat.le_trans (Below.size (by assumption)) (by simp)) _) | (refine Below.via ?_ (by assumption) (by first | omega | (simp; done) | (simp; omega) | exact Below.size (by assumption) | exact Nat.le_trans (Below.size (by assumption)) (by simp))))))) ((go_at_call 40; refine (l1Num_any 1000 _ _ (by omega) (by omega) (by omega)).mono ?_; rintro e w1 ⟨rfl, hb1⟩)); rename_i hH; obtain ⟨hb1, hcl1⟩ := hH; have hz1 := hb1.size; (try simp at hz1); (try (have hly1 := Nat.lt_of_succ_le hz1)); (try (have hlx1 := Nat.lt_of_succ_lt hly1)); (try (have hlw1 := Nat.lt_of_succ_lt hlx1)); (try (have hle1 := Nat.le_of_lt hly1)); (try (have hya1 : w.heap.size < w1.heap.size := by omega)); (try (have hyb1 : w.heap.size + 1 < w1.heap.size := by omega)); (try (have hyc1 : w.heap.size + 1 + 1 < w1.heap.size := by omega)); (try (have hyd1 : wa.heap.size < w1.heap.size := by omega))
      have hB1 := Lib.hid (show Below w.heap.size w w1 from (by repeat (first | exact Below.refl _ _ | assumption | refine Below.drew ?_ | refine below_drewN ?_ _ | refine Below.alloc' ?_ _ | (refine Below.setCell ?_ (by first | omega | (simp; done) | (simp; omega) | exact Below.size (by assumption) | exact Nat.le_trans (Below.size (by assumption)) (by simp)) _) | (refine Below.via' ?_ (by assumption)) | (refine Below.alloc ?_ (by first | omega | (simp; done) | (simp; omega) | exact Below.size (by assumption) | exact Nat.le_trans (Below.size (by assumption)) (by simp)) _) | (refine Below.via ?_ (by assumption) (by first | omega | (simp; done) | (simp; omega) | exact Below.size (by assumption) | exact Nat.le_trans (Below.size (by assumption)) (by simp))))))
      obtain ⟨ra, rb, rc, rd⟩ := hR0.out.below hb1
      have hq1 := Lib.hid (hqi.out.below (Below.via' (Below.alloc' (Below.refl wr.heap.size wr) _) hb1))
      have hs1' := hb1.size
      clear hc0 hc1 hc2 hs1 hs2 hs3 hs4 hs5 hs6 hs7 hs8 hcl1 hb1 hR0 hqi
      go_wp2
      rw [hst.out]
      go_loopw [3, 28] (fun s k wx => ∃ m : Nat, m ≤ q.L.length ∧ k = .int .i64 m ∧ s = .string (dpT ((pM Q).take i) q.m m) ∧ Below w1.heap.size w1 wx) (fun _ k _ => q.L.length - (intOf k).toNat)
      case atStart => exact ⟨0, by omega, by go_num, rfl, Below.refl _ _⟩
      case round =>
        obtain ⟨m, hml, rfl, rfl, hbx⟩ := hrel
        have z0 := hdp.out m
        by_cases hlm : m < q.L.length
        · obtain ⟨b2, o2, v, hx2, hbl2, hLm, hc0⟩ := (hq1.out.2.2.below hbx).int hlm
          obtain ⟨v0, v1⟩ := r4'.out v (List.mem_of_getElem? hLm)
          have hnx : Hid (dpT ((pM Q).take i) q.m m ++ numZ v = dpT ((pM Q).take i) q.m (m + 1)) := dp_next (show q.m.2.2[m]? = some v from hLm)
          have hv1 := numZ_one (i := v.toNat) (by omega)
          rw [show ((v.toNat : Nat) : Int) = v by omega] at hv1
          have hs1 : ¬ 9223372036854775807 < (dpT ((pM Q).take i) q.m m).size + (numZ v).size := by omega
          have hlm' : (m : Int) < (q.L.length : Int) := by omega
          have hm0 : (0 : Int) ≤ (m : Int) := by omega
          replace hLm := Lib.hid hLm
          replace hx2 := Lib.hid hx2
          have hxx := hx2.out
          replace hv1 := Lib.hid hv1
          rw [hxx]
          clear ra rb rc rd
          go_wp2_with fail
          refine (l1Num_any 1000 v _ (by omega) (by omega) (by omega)).mono ?_
          rintro e w5 ⟨rfl, hb5⟩
          go_wp2
          go_roundw
          case rel => exact ⟨m + 1, by omega, by go_num, by rw [hnx.out], (by repeat (first | exact Below.refl _ _ | assumption | refine Below.drew ?_ | refine below_drewN ?_ _ | refine Below.alloc' ?_ _ | (refine Below.setCell ?_ (by first | omega | (simp; done) | (simp; omega) | exact Below.size (by assumption) | exact Nat.le_trans (Below.size (by assumption)) (by simp)) _) | (refine Below.via' ?_ (by assumption)) | (refine Below.alloc ?_ (by first | omega | (simp; done) | (simp; omega) | exact Below.size (by assumption) | exact Nat.le_trans (Below.size (by assumption)) (by simp)) _) | (refine Below.via ?_ (by assumption) (by first | omega | (simp; done) | (simp; omega) | exact Below.size (by assumption) | exact Nat.le_trans (Below.size (by assumption)) (by simp)))))⟩
          case measure => simp [intOf]; omega
        · have hmm : m = q.L.length := by omega
          have hlm' : ¬ (m : Int) < (q.L.length : Int) := by omega
          have hs1 : ¬ 9223372036854775807 < (dpT ((pM Q).take i) q.m m).size + (⟨#[10]⟩ : ByteArray).size := by rw [k10]; omega
          have hs2 : ¬ 9223372036854775807 < (dpT ((pM Q).take i) q.m m).size + 1 := by omega
          have hen2 : Hid (dpT ((pM Q).take i) q.m m ++ ⟨#[10]⟩ = dtT ((pM Q).take (i + 1))) := by unfold Hid; rw [hmm]; exact hen.out
          have hBx := Lib.hid (Below.via' hB1.out hbx)
          replace hmm := Lib.hid hmm
          go_wp2
          go_roundw
          case rel => exact ⟨i + 1, by omega, by go_num, by rw [hen2.out], hBx.out⟩
          case measure => simp [intOf]; omega
    · have hij : i = Q.length := by omega
      have hv : Hid (dtT ((pM Q).take i) = dtT (pM Q)) := by unfold Hid; rw [hij, ← pM_len, List.take_length]
      replace hij := Lib.hid hij
      go_wp2
      go_ret
      exact ⟨ret_str hv.out, hb⟩
end Go.Proofs.YtelnbjhnjcbjoaaDoor
