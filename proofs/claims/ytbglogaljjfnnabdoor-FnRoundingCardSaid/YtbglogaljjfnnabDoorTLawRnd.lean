/- The law FnRounding: for every two slices of bytes, the fractions, the exponent and the list that the model draws from them are rounded, rounded down, raised to the power and summed by the program as by the model; a valid fraction's text is read back; and the nearest integer is the one below or the next. Nothing that was there is written. The card ties the table of small divisors and the library's variables that strconv and strings list to the program's text. No other condition. -/
import Derived.Test.YtbglogaljjfnnabDoorTieK
import Derived.Test.YtbglogaljjfnnabDoorTieQ
import Derived.Test.YtbglogaljjfnnabDoorDrwF
import Derived.Test.YtbglogaljjfnnabDoorFracB
import Derived.Test.YtbglogaljjfnnabDoorPowB
import Derived.Test.YtbglogaljjfnnabDoorFrI
import Derived.Test.YtbglogaljjfnnabDoorByS
import Derived.Lay
namespace Go.Proofs.YtbglogaljjfnnabDoor
open Go.ChangeShapes Go.WideShapes Go.ChangeAt Go.RowKit
open Go.Joins
set_option maxRecDepth 100000

/-- What RoundFrac and FloorFrac give, part by part. -/
def rdN (n d : Int) : Int := if fOK n d then roundZ n d else 0
def flN (n d : Int) : Int := if fOK n d then n / d else 0
theorem roundR_x (n d : Int) : roundR n d = .tuple #[.int .i64 (rdN n d), .bool (fOK n d)] := by
  unfold rdN
  cases h : fOK n d
  · rw [roundR_f h]; rfl
  · rw [roundR_t h]; rfl
theorem floorR_x (n d : Int) : floorR n d = .tuple #[.int .i64 (flN n d), .bool (fOK n d)] := by
  unfold flN
  cases h : fOK n d
  · rw [floorR_f h]; rfl
  · rw [floorR_t h]; rfl
theorem iRound_x (n d : Int) (w : World) : Calls Tryd.prog 17 #[.agg #[.int .i64 n, .int .i64 d]] w fun e w' => e = .returned (.tuple #[.int .i64 (rdN n d), .bool (fOK n d)]) ∧ Below w.heap.size w w' := by
  rw [← roundR_x]; exact roundFrac_any n d w
theorem sRound_x (n d : Int) (w : World) : Calls Tryd.prog 18 #[.agg #[.int .i64 n, .int .i64 d]] w fun e w' => e = .returned (.tuple #[.int .i64 (rdN n d), .bool (fOK n d)]) ∧ Below w.heap.size w w' := by
  rw [← roundR_x]; exact sRoundFrac_any n d w
theorem iFloor_x (n d : Int) (w : World) : Calls Tryd.prog 19 #[.agg #[.int .i64 n, .int .i64 d]] w fun e w' => e = .returned (.tuple #[.int .i64 (flN n d), .bool (fOK n d)]) ∧ Below w.heap.size w w' := by
  rw [← floorR_x]; exact floorFrac_any n d w
theorem sFloor_x (n d : Int) (w : World) : Calls Tryd.prog 20 #[.agg #[.int .i64 n, .int .i64 d]] w fun e w' => e = .returned (.tuple #[.int .i64 (flN n d), .bool (fOK n d)]) ∧ Below w.heap.size w w' := by
  rw [← floorR_x]; exact sFloorFrac_any n d w
theorem rd_near {n d : Int} (h : fOK n d = true) : -1000000000 ≤ flN n d ∧ flN n d ≤ 1000000000 ∧ (rdN n d = flN n d ∨ (rdN n d = flN n d + 1 ∧ ¬ rdN n d = flN n d)) := by
  obtain ⟨⟨h1, h2, h3, h4⟩, _⟩ := (fOK_iff n d).1 h
  obtain ⟨a, b⟩ := fdiv_bd n d h1 1000000000 (by omega) h3 h4
  unfold rdN flN
  rw [if_pos h, if_pos h]
  refine ⟨a, b, ?_⟩
  unfold roundZ
  split
  · exact Or.inr ⟨rfl, by omega⟩
  · exact Or.inl rfl
theorem numI_short {n : Int} (h1 : -1000000000 ≤ n) (h2 : n ≤ 1000000000) : (numI n).size ≤ 11 := by
  have hz : ∀ m : Int, 0 ≤ m → m ≤ 1000000000 → (numZ m).size ≤ 10 := by
    intro m a b
    have := num_len_bd (n := m.toNat) (by omega)
    show (Lib.decDigits m.toNat).toArray.size ≤ _
    simp
    omega
  by_cases h : 0 ≤ n
  · rw [numI_pos h]
    have := hz n h h2
    omega
  · rw [numI_neg (by omega)]
    have := hz (-n) (by omega) (by omega)
    have e : (⟨#[45]⟩ : ByteArray).size = 1 := rfl
    rw [ByteArray.size_append, e]
    omega
theorem frT_short {n d : Int} (h : fOK n d = true) : (frT n d).size ≤ 30 := by
  obtain ⟨⟨h1, h2, h3, h4⟩, _⟩ := (fOK_iff n d).1 h
  have a := numI_short h3 h4
  have b := numI_short (n := d) (by omega) h2
  unfold frT
  split
  · omega
  · have e : (⟨#[47]⟩ : ByteArray).size = 1 := rfl
    rw [ByteArray.size_append, ByteArray.size_append, e]
    omega
/-- A valid fraction's text is read back. -/
theorem back_x (n d : Int) (w : World) (h : fOK n d = true) (hL : LibV w) (hP : PowTab w) :
    Calls Tryd.prog 28 #[.string (ftT n d)] w fun e w' => e = .returned (.tuple #[.agg #[.int .i64 n, .int .i64 d], .bool true]) ∧ Below w.heap.size w w' := by
  have e : ftT n d = frT n d := by unfold ftT; rw [if_pos h]
  have hs := frT_short h
  have hm := iPF_x (frT n d) w (by omega) hL hP
  obtain ⟨r1, r2, r3⟩ := fr_read h
  rw [show pfN (frT n d) = n by unfold pfN; rw [if_pos r3, r1], show pfD (frT n d) = d by unfold pfD; rw [if_pos r3, r2], show pfB (frT n d) = true from r3] at hm
  rw [e]
  exact hm

theorem sSumV_x (x : Option Addr) (cap : Nat) (L : List (Int × Int)) (w : World) (hm : L.length ≤ 1048576) (hL : FrRd w x L) :
    Calls Tryd.prog 26 #[.slice x L.length cap] w fun e w' => e = .returned (.tuple #[.agg #[.int .i64 (smN L), .int .i64 (smD L)], .bool (smB L)]) ∧ Below w.heap.size w w' := sSum_any x cap L w (by omega) hL
theorem iSumV_x (x : Option Addr) (cap : Nat) (L : List (Int × Int)) (w : World) (hm : L.length ≤ 1048576) (hT : Tab w) (hL : FrRd w x L) :
    Calls Tryd.prog 25 #[.slice x L.length cap] w fun e w' => e = .returned (.tuple #[.agg #[.int .i64 (smN L), .int .i64 (smD L)], .bool (smB L)]) ∧ Below w.heap.size w w' := iSum_any x cap L w (by omega) hT hL

theorem iText_x (n d : Int) (w : World) (h : fOK n d = true) (hP : PowTab w) :
    Calls Tryd.prog 27 #[.agg #[.int .i64 n, .int .i64 d]] w fun e w' => e = .returned (.tuple #[.string (ftT n d), .bool true]) ∧ Below w.heap.size w w' := by
  rw [← h]
  exact iFracText_any n d w hP

set_option maxHeartbeats 4000000 in
theorem fnRounding_any (x1 x2 : Option Addr) (n1 c1 n2 c2 : Nat) (w : World) (hT : Tab w) (hL0 : LibV w) (hP0 : PowTab w) (hB1 : ByRd w x1 n1) (hB2 : ByRd w x2 n2) (hl1 : n1 ≤ 140737488355327) (hl2 : n2 ≤ 140737488355327) :
    Calls Tryd.prog 4 #[.slice x1 n1 c1, .slice x2 n2 c2] w fun e w' => e = .returned (.bool true) ∧ Below w.heap.size w w' := by
  have hX1 := Lib.hid hB1.low
  have hX2 := Lib.hid hB2.low
  have hD1 := Lib.hid hB1
  have hD2 := Lib.hid hB2
  have hL := Lib.hid hL0
  have hP := Lib.hid hP0
  clear hB1 hB2 hL0 hP0
  by_cases hg : (1048576 : Int) < (n1 : Int) + (n2 : Int)
  · go_enter Tryd.func4, Tryd.ntmps4
    go_wp2_with fail
    go_ret
    exact ⟨rfl, (by repeat (first | exact Below.refl _ _ | assumption | refine Below.drew ?_ | refine below_drewN ?_ _ | refine Below.alloc' ?_ _ | (refine Below.setCell ?_ (by first | omega | (simp; done) | (simp; omega) | exact Below.size (by assumption) | exact Nat.le_trans (Below.size (by assumption)) (by simp)) _) | (refine Below.via' ?_ (by assumption)) | (refine Below.alloc ?_ (by first | omega | (simp; done) | (simp; omega) | exact Below.size (by assumption) | exact Nat.le_trans (Below.size (by assumption)) (by simp)) _) | (refine Below.via ?_ (by assumption) (by first | omega | (simp; done) | (simp; omega) | exact Below.size (by assumption) | exact Nat.le_trans (Below.size (by assumption)) (by simp)))))⟩
  go_enter Tryd.func4, Tryd.ntmps4
  go_wp2_with fail
  refine (drawRound_any x1 n1 c1 _ hX1.out hD1.out).mono ?_
  rintro e w1 ⟨n, d, rfl, B1⟩
  have F1 := FB.new w1 n d 24
  have b1 : w1.heap.size < (w1.alloc (.cells #[.int .i64 n, .int .i64 d] 24)).heap.size := by simp
  obtain ⟨f0, f1, f2⟩ := F1
  go_wp2_with fail
  refine (iRound_x n d _).mono ?_
  rintro e w2 ⟨rfl, hb⟩
  have B2 := Below.via' (Below.alloc' B1 _) hb
  have F2 := FB.below ⟨f0, f1, f2⟩ hb
  clear hb f0 f1 f2 b1
  obtain ⟨f0, f1, f2⟩ := F2
  go_wp2_with fail
  refine (sRound_x n d _).mono ?_
  rintro e w3 ⟨rfl, hb⟩
  have B3 := Below.via' B2 hb
  have F3 := FB.below ⟨f0, f1, f2⟩ hb
  clear hb f0 f1 f2
  obtain ⟨f0, f1, f2⟩ := F3
  go_wp2_with fail
  refine (iFloor_x n d _).mono ?_
  rintro e w4 ⟨rfl, hb⟩
  have B4 := Below.via' B3 hb
  have F4 := FB.below ⟨f0, f1, f2⟩ hb
  clear hb f0 f1 f2
  obtain ⟨f0, f1, f2⟩ := F4
  go_wp2_with fail
  refine (sFloor_x n d _).mono ?_
  rintro e w5 ⟨rfl, hb⟩
  have B5 := Below.via' B4 hb
  have F5 := FB.below ⟨f0, f1, f2⟩ hb
  clear hb f0 f1 f2 B1 B2 B3 B4
  go_wp2_with fail
  refine (drawPow_any x2 n2 c2 _ (fun h0 c off e => Nat.lt_of_lt_of_le (hX2.out h0 c off e) B5.size) (hD2.out.below B5)).mono ?_
  rintro e w6 ⟨m, q, k, rfl, hb⟩
  have B6 := Below.via' B5 hb
  have F6 := (F5.below hb).al (.cells #[.int .i64 m, .int .i64 q] 24)
  have G6 := FB.new w6 m q 24
  clear hb F5
  replace F6 := Lib.hid F6
  obtain ⟨g0, g1, g2⟩ := G6
  go_wp2_with fail
  refine (iPow_x m q k _ (hT.below (Below.alloc' B6 _))).mono ?_
  rintro e w7 ⟨rfl, hb⟩
  have B7 := Below.via' (Below.alloc' B6 _) hb
  have F7 := Lib.hid (F6.out.below hb)
  have G7 := (FB.below ⟨g0, g1, g2⟩ hb).al (.cells #[.int .i64 (pqN (powOK m q k) m q k), .int .i64 (pqD (powOK m q k) m q k)] 24)
  have P7 := Lib.hid (FB.new w7 (pqN (powOK m q k) m q k) (pqD (powOK m q k) m q k) 24)
  clear hb F6 g0 g1 g2
  obtain ⟨g0, g1, g2⟩ := G7
  go_wp2_with fail
  refine (sPow_x m q k _).mono ?_
  rintro e w8 ⟨rfl, hb⟩
  have B8 := Below.via' (Below.alloc' B7 _) hb
  have F8 := Lib.hid (((F7.out.al _).below hb).al (.cells #[.int .i64 (pqN (powOK m q k) m q k), .int .i64 (pqD (powOK m q k) m q k)] 24))
  have P8 := Lib.hid ((P7.out.below hb).al (.cells #[.int .i64 (pqN (powOK m q k) m q k), .int .i64 (pqD (powOK m q k) m q k)] 24))
  have Q8 := Lib.hid (FB.new w8 (pqN (powOK m q k) m q k) (pqD (powOK m q k) m q k) 24)
  clear hb F7 P7 g0 g1 g2
  have B8' := Below.alloc' B8 (.cells #[.int .i64 (pqN (powOK m q k) m q k), .int .i64 (pqD (powOK m q k) m q k)] 24)
  go_wp2_with fail
  refine (drawSum_any x2 n2 c2 _ (fun h0 c off e => Nat.lt_of_lt_of_le (hX2.out h0 c off e) B8'.size) (hD2.out.below B8')).mono ?_
  rintro e w9 ⟨L, y, c, rfl, hLl, hFr, hb⟩
  have B9 := Below.via' B8' hb
  have F9 := Lib.hid (F8.out.below hb)
  have P9 := Lib.hid (P8.out.below hb)
  have Q9 := Lib.hid (Q8.out.below hb)
  replace hFr := Lib.hid hFr
  clear hb F8 P8 Q8 B8 B8' B7 B6 B5
  go_wp2_with fail
  refine (iSumV_x y c L _ (by omega) (hT.below B9) hFr.out).mono ?_
  rintro e w10 ⟨rfl, hb⟩
  have B10 := Below.via' B9 hb
  have F10 := Lib.hid ((F9.out.below hb).al (.cells #[.int .i64 (smN L), .int .i64 (smD L)] 24))
  have P10 := Lib.hid ((P9.out.below hb).al (.cells #[.int .i64 (smN L), .int .i64 (smD L)] 24))
  have Q10 := Lib.hid ((Q9.out.below hb).al (.cells #[.int .i64 (smN L), .int .i64 (smD L)] 24))
  have S10 := Lib.hid (FB.new w10 (smN L) (smD L) 24)
  have hF2 := Lib.hid ((hFr.out.below hb).below ((Below.refl _ w10).alloc (Nat.le_refl _) (.cells #[.int .i64 (smN L), .int .i64 (smD L)] 24)))
  clear hb F9 P9 Q9 hFr B9
  go_wp2_with fail
  refine (sSumV_x y c L _ (by omega) hF2.out).mono ?_
  rintro e w11 ⟨rfl, hb⟩
  have B11 := Below.via' (Below.alloc' B10 _) hb
  obtain ⟨f0, f1, f2⟩ := (F10.out.below hb).al (.cells #[.int .i64 (smN L), .int .i64 (smD L)] 24)
  obtain ⟨p0, p1, p2⟩ := (P10.out.below hb).al (.cells #[.int .i64 (smN L), .int .i64 (smD L)] 24)
  obtain ⟨q0, q1, q2⟩ := (Q10.out.below hb).al (.cells #[.int .i64 (smN L), .int .i64 (smD L)] 24)
  obtain ⟨s0, s1, s2⟩ := (S10.out.below hb).al (.cells #[.int .i64 (smN L), .int .i64 (smD L)] 24)
  obtain ⟨t0, t1, t2⟩ := FB.new w11 (smN L) (smD L) 24
  clear hb F10 P10 Q10 S10 hF2 B10
  cases hf : fOK n d
  · go_wp2_with fail
    go_ret
    exact ⟨rfl, (by repeat (first | exact Below.refl _ _ | assumption | refine Below.drew ?_ | refine below_drewN ?_ _ | refine Below.alloc' ?_ _ | (refine Below.setCell ?_ (by first | omega | (simp; done) | (simp; omega) | exact Below.size (by assumption) | exact Nat.le_trans (Below.size (by assumption)) (by simp)) _) | (refine Below.via' ?_ (by assumption)) | (refine Below.alloc ?_ (by first | omega | (simp; done) | (simp; omega) | exact Below.size (by assumption) | exact Nat.le_trans (Below.size (by assumption)) (by simp)) _) | (refine Below.via ?_ (by assumption) (by first | omega | (simp; done) | (simp; omega) | exact Below.size (by assumption) | exact Nat.le_trans (Below.size (by assumption)) (by simp)))))⟩
  obtain ⟨k0, k1, hk⟩ := rd_near hf
  replace hk := Lib.hid hk
  have F11 := Lib.hid (show FB _ _ n d from ⟨f0, f1, f2⟩)
  go_wp2_with fail
  refine (iText_x n d _ hf (hP.out.below (Below.alloc' B11 _))).mono ?_
  rintro e w12 ⟨rfl, hb⟩
  have B12 := Below.via' (Below.alloc' B11 _) hb
  have F12 := Lib.hid (F11.out.below hb)
  clear hb F11 f0 f1 f2 p0 p1 p2 q0 q1 q2 s0 s1 s2 t0 t1 t2
  go_wp2_with fail
  refine (back_x n d _ hf (hL.out.below B12) (hP.out.below B12)).mono ?_
  rintro e w13 ⟨rfl, hb⟩
  have B13 := Below.via' B12 hb
  obtain ⟨f0, f1, f2⟩ := (F12.out.below hb).al (.cells #[.int .i64 n, .int .i64 d] 24)
  clear hb F12
  rcases hk.out with h | ⟨h, h'⟩
  · have e1 : (rdN n d == flN n d) = true := beq_iff_eq.2 h
    clear h
    go_wp2_with fail
    go_ret
    exact ⟨rfl, (by repeat (first | exact Below.refl _ _ | assumption | refine Below.drew ?_ | refine below_drewN ?_ _ | refine Below.alloc' ?_ _ | (refine Below.setCell ?_ (by first | omega | (simp; done) | (simp; omega) | exact Below.size (by assumption) | exact Nat.le_trans (Below.size (by assumption)) (by simp)) _) | (refine Below.via' ?_ (by assumption)) | (refine Below.alloc ?_ (by first | omega | (simp; done) | (simp; omega) | exact Below.size (by assumption) | exact Nat.le_trans (Below.size (by assumption)) (by simp)) _) | (refine Below.via ?_ (by assumption) (by first | omega | (simp; done) | (simp; omega) | exact Below.size (by assumption) | exact Nat.le_trans (Below.size (by assumption)) (by simp)))))⟩
  · have e1 : (rdN n d == flN n d) = false := beq_eq_false_iff_ne.2 h'
    have e2 : (rdN n d == flN n d + 1) = true := beq_iff_eq.2 h
    clear h h'
    go_wp2_with fail
    go_ret
    exact ⟨rfl, (by repeat (first | exact Below.refl _ _ | assumption | refine Below.drew ?_ | refine below_drewN ?_ _ | refine Below.alloc' ?_ _ | (refine Below.setCell ?_ (by first | omega | (simp; done) | (simp; omega) | exact Below.size (by assumption) | exact Nat.le_trans (Below.size (by assumption)) (by simp)) _) | (refine Below.via' ?_ (by assumption)) | (refine Below.alloc ?_ (by first | omega | (simp; done) | (simp; omega) | exact Below.size (by assumption) | exact Nat.le_trans (Below.size (by assumption)) (by simp)) _) | (refine Below.via ?_ (by assumption) (by first | omega | (simp; done) | (simp; omega) | exact Below.size (by assumption) | exact Nat.le_trans (Below.size (by assumption)) (by simp)))))⟩

set_option maxRecDepth 100000 in
theorem fnRounding_lifted (os : Os) (started : os.Started) (H : Type) (enc : TypeId × Value → H) :
    ReturnsInHanded {} Tryd.checked os 4 .any (fun w args => (Rows.fnRoundingSpec.pre enc Tryd.prog Tryd.f4 [] false w args ∧ laidMetH Tryd.prog Rows.fnRoundingRow.laid w) ∧ sizedMet enc Tryd.prog Tryd.f4 (OpenSpec.ofChange Rows.fnRoundingSpec) false w args)
      (Rows.fnRoundingSpec.post enc Tryd.prog Tryd.f4 false true false false) := by
  refine handed_and_shape (C := Tryd.checked) (X := fun w _ => laidMetH Tryd.prog Rows.fnRoundingRow.laid w) (fun _ _ _ hh h => h.of_heap hh) own started (by kernel_rfl) Tryd.func4
    (ChangeSpec.witness_shaped (enc := enc) (C := Tryd.checked) (os := os) (X := fun w _ => laidMetH Tryd.prog Rows.fnRoundingRow.laid w) false (World.laidAll Tryd.prog os Rows.fnRoundingRow.laid) #[.slice none 0 0, .slice none 0 0] 8 (World.laidAll_os _ _ _) (World.shaped_of_ZipB (by kernel_rfl) (by kernel_rfl)) (by kernel_rfl) (by kernel_rfl) (by kernel_rfl) (by rw [MakeChecks.laidMetH_plain _ _ _ (by kernel_rfl)]; exact laidMet_laidAll _ (by kernel_rfl) (by kernel_rfl))) ?_
  intro W base args ds gs before hval0 hW hwt hL hshape
  have hval : ∀ (j : Nat) t v, Tryd.f4.params[j]? = some t → args[j]? = some v → Value.okWide Tryd.prog W .any base t v := hval0
  have hW' := hW
  obtain ⟨p, q, hA0, hV, rfl, hfz, hnd⟩ := hW
  have hA : DataW.TrodAll enc Tryd.prog W 0 (fun _ => true) true Tryd.f4.params.toList args.toList ds p := hA0
  rw [Tryd.params4] at hA hval
  rw [MakeChecks.laidMetH_plain _ _ _ (by kernel_rfl)] at hL
  have hLp := laidMet.tail (laidMet.tail hL)
  have hP := pow_of_laidMet hLp
  have hLr := laidMet.tail hLp
  have hLV := libV_of hLr (laidMet.tail hLr) hshape
  have hT := tab_of_laidMet (laidMet.tail (laidMet.tail hLr))
  obtain ⟨v0, v1, d0, d1, p0, p1, rfl, rfl, rfl, h0, h1⟩ := trodAll_two hA
  have hb8 : Tryd.checked.prog.bytesOf 5 = 1 := by kernel_rfl
  have hw0 : ∀ elems spare, d0 = .slice elems spare → elems.length ≤ 140737488355327 := fun elems spare e => by
    have h1 := sized_slice hwt (j := 0) rfl (by rw [e]; rfl) Tryd.underlying22
    have h2 := reachBytes_lt
    rw [hb8] at h1
    omega
  have hw1 : ∀ elems spare, d1 = .slice elems spare → elems.length ≤ 140737488355327 := fun elems spare e => by
    have h1 := sized_slice hwt (j := 1) rfl (by rw [e]; rfl) Tryd.underlying22
    have h2 := reachBytes_lt
    rw [hb8] at h1
    omega
  obtain ⟨x1, n1, c1, rfl, hl1, hB1⟩ := open_byS (hval 0 _ _ rfl rfl) h0 hw0
  obtain ⟨x2, n2, c2, rfl, hl2, hB2⟩ := open_byS (hval 1 _ _ rfl rfl) h1 hw1
  refine (fnRounding_any x1 x2 n1 c1 n2 c2 W hT hLV hP hB1 hB2 hl1 hl2).mono fun e W' ⟨he, hb⟩ => ?_
  subst he
  obtain ⟨gd, rfl⟩ : ∃ d, gs = [d] := vars_one hV
  exact ⟨_, rfl, law_post laidOut (by kernel_rfl) (by kernel_rfl) rfl Tryd.underlying4 (fun _ _ _ _ => rfl) hW' hb⟩

theorem fnRounding_row : Rows.FnRoundingSaid :=
  OpenClaim.holds_of_wide 4 Tryd.f4 rfl rfl rfl rfl rfl rfl rfl ⟨rfl, rfl, rfl, rfl, rfl⟩ rfl rfl rfl rfl rfl (by kernel_rfl) Tryd.func4 (by kernel_rfl)
    (of_decide_eq_true (by kernel_rfl)) (by unfold Func.isWrapper; first | (rw [if_pos (by decide +kernel)]; kernel_rfl) | (rw [if_neg (by decide +kernel)]; exact ⟨rfl, rfl⟩))
    (fun os started H enc _ => fnRounding_lifted os started H enc)

theorem fnRounding_holds : Rows.FnRoundingCardSaid :=
  Claim7.holds_tied_plain_at .later [] _ true _ _
    fnRounding_row (fun _ h => by cases h) (by kernel_rfl) (fun _ h => by cases h) fnRounding_row_tie rfl ⟨rfl, rfl⟩ (by kernel_rfl) rfl
    (fun f fn hf hfn => by
      obtain rfl : f = 4 := Option.some.inj ((show Tryd.prog.funcNamed "loop.example/g00908/laws.FnRounding" = some 4 by kernel_rfl).symm.trans hf) |>.symm
      obtain rfl : fn = Tryd.f4 := (Option.some.inj (Tryd.func4.symm.trans hfn)).symm
      exact ⟨by kernel_rfl, fun j t ht => by
        have hm : t ∈ Tryd.f4.params.toList := Array.mem_toList_iff.2 (Array.mem_of_getElem? ht)
        have hall : (Tryd.f4.params.toList.all fun u => !Tryd.prog.wantsStandIn u) = true := by kernel_rfl
        exact (show Tryd.prog.wantsStandIn t = false by simpa using List.all_eq_true.1 hall t hm)⟩)
    (by kernel_rfl)

end Go.Proofs.YtbglogaljjfnnabDoor
