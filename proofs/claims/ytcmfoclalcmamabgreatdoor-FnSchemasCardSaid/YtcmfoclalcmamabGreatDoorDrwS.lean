/-
  The model's draws of chapter 2: schemas, values, groupings; and the laws' own comparisons.
-/
import Derived.Test.YtcmfoclalcmamabGreatDoorCurB
import Derived.Test.YtcmfoclalcmamabGreatDoorSchM
import Derived.Test.YtcmfoclalcmamabGreatDoorSchO
import Derived.Test.YtcmfoclalcmamabGreatDoorStp
import Derived.Test.YtcmfoclalcmamabGreatDoorByS
import Derived.Deep.RegionLaw
import Derived.Outline
namespace Go.Proofs.YtcmfoclalcmamabGreatDoor
open Go.RowKit
set_option maxRecDepth 100000

set_option maxHeartbeats 1000000 in
theorem qInts_any (x y : Option Addr) (c1 c2 : Nat) (L : List Int) (w : World) (hm : L.length ≤ 1048576) (hx : Rd w x (iC L)) (hy : Rd w y (iC L)) :
    Calls Tryz.prog 12 #[.slice x L.length c1, .slice y L.length c2] w fun e w' => e = .returned (.bool true) ∧ Below w.heap.size w w' := by
  go_enter Tryz.func12, Tryz.ntmps12
  go_wp2
  go_loopw [13] (fun c wr => ∃ i : Nat, i ≤ L.length ∧ c = .int .i64 i ∧ Below w.heap.size w wr) (fun c _ => L.length - (intOf c).toNat)
  case atStart => exact ⟨0, by omega, rfl, Below.refl _ _⟩
  case round =>
    obtain ⟨i, hi, rfl, hb⟩ := hrel
    by_cases hlt : i < L.length
    · obtain ⟨bl, off, v, rfl, hbl, hLv, hc0⟩ := (hx.below hb).int hlt
      obtain ⟨bl2, off2, v2, rfl, hbl2, hLv2, hc2⟩ := (hy.below hb).int hlt
      have e : v2 = v := Option.some.inj (hLv2.symm.trans hLv)
      subst e
      clear hLv hLv2
      have hlt' : (i : Int) < (L.length : Int) := by omega
      have hi0 : (0 : Int) ≤ (i : Int) := by omega
      clear hx hy
      go_wp2
      go_quiet (fail)
      go_wp2
      go_roundw
      case rel => exact ⟨i + 1, by omega, by go_num, (by repeat (first | exact Below.refl _ _ | assumption | refine Below.drew ?_ | refine below_drewN ?_ _ | refine Below.alloc' ?_ _ | (refine Below.setCell ?_ (by first | omega | (simp; done) | (simp; omega) | exact Below.size (by assumption) | exact Nat.le_trans (Below.size (by assumption)) (by simp)) _) | (refine Below.via' ?_ (by assumption)) | (refine Below.alloc ?_ (by first | omega | (simp; done) | (simp; omega) | exact Below.size (by assumption) | exact Nat.le_trans (Below.size (by assumption)) (by simp)) _) | (refine Below.via ?_ (by assumption) (by first | omega | (simp; done) | (simp; omega) | exact Below.size (by assumption) | exact Nat.le_trans (Below.size (by assumption)) (by simp)))))⟩
      case measure => simp [intOf]; omega
    · have hij : i = L.length := by omega
      subst hij
      clear hx hy
      go_wp2
      go_ret
      exact ⟨rfl, hb⟩
set_option maxHeartbeats 1000000 in
theorem qSchema_any (x y : Option Addr) (c1 c2 : Nat) (L : List (ByteArray × Int)) (w : World) (hm : L.length ≤ 1048576) (hx : Rd w x (vC L)) (hy : Rd w y (vC L)) :
    Calls Tryz.prog 19 #[.slice x L.length c1, .slice y L.length c2] w fun e w' => e = .returned (.bool true) ∧ Below w.heap.size w w' := by
  go_enter Tryz.func19, Tryz.ntmps19
  go_wp2
  go_loopw [13] (fun c wr => ∃ i : Nat, i ≤ L.length ∧ c = .int .i64 i ∧ Below w.heap.size w wr) (fun c _ => L.length - (intOf c).toNat)
  case atStart => exact ⟨0, by omega, rfl, Below.refl _ _⟩
  case round =>
    obtain ⟨i, hi, rfl, hb⟩ := hrel
    by_cases hlt : i < L.length
    · obtain ⟨bl, off, nm, lv, rfl, hbl, hLv, hc0, hc1⟩ := (hx.below hb).var hlt
      obtain ⟨bl2, off2, nm2, lv2, rfl, hbl2, hLv2, hc2, hc3⟩ := (hy.below hb).var hlt
      have e := Option.some.inj (hLv2.symm.trans hLv)
      injection e with e e'
      subst e e'
      have hs1 := ba_same nm2
      clear hLv hLv2
      have hlt' : (i : Int) < (L.length : Int) := by omega
      have hi0 : (0 : Int) ≤ (i : Int) := by omega
      clear hx hy
      go_wp2
      go_quiet (fail)
      go_wp2
      go_roundw
      case rel => exact ⟨i + 1, by omega, by go_num, (by repeat (first | exact Below.refl _ _ | assumption | refine Below.drew ?_ | refine below_drewN ?_ _ | refine Below.alloc' ?_ _ | (refine Below.setCell ?_ (by first | omega | (simp; done) | (simp; omega) | exact Below.size (by assumption) | exact Nat.le_trans (Below.size (by assumption)) (by simp)) _) | (refine Below.via' ?_ (by assumption)) | (refine Below.alloc ?_ (by first | omega | (simp; done) | (simp; omega) | exact Below.size (by assumption) | exact Nat.le_trans (Below.size (by assumption)) (by simp)) _) | (refine Below.via ?_ (by assumption) (by first | omega | (simp; done) | (simp; omega) | exact Below.size (by assumption) | exact Nat.le_trans (Below.size (by assumption)) (by simp)))))⟩
      case measure => simp [intOf]; omega
    · have hij : i = L.length := by omega
      subst hij
      clear hx hy
      go_wp2
      go_ret
      exact ⟨rfl, hb⟩

/-- A list of variables that is drawn. -/
def DrS (S : List (ByteArray × Int)) : Prop := S.length ≤ 7 ∧ ∀ p ∈ S, p.1.size ≤ 9 ∧ 1 ≤ p.2 ∧ p.2 ≤ 9
theorem DrS.nil : DrS [] := ⟨by simp, fun p hp => by cases hp⟩
theorem DrS.snoc {S : List (ByteArray × Int)} {p : ByteArray × Int} (h : DrS S) (hl : S.length ≤ 6) (hp : p.1.size ≤ 9 ∧ 1 ≤ p.2 ∧ p.2 ≤ 9) : DrS (S ++ [p]) := by
  refine ⟨by simp; omega, fun q hq => ?_⟩
  rcases List.mem_append.1 hq with hq | hq
  · exact h.2 q hq
  · simp at hq
    subst hq
    exact hp
theorem DrS.set {S : List (ByteArray × Int)} {p : ByteArray × Int} (h : DrS S) (k : Nat) (hp : p.1.size ≤ 9 ∧ 1 ≤ p.2 ∧ p.2 ≤ 9) : DrS (S.set k p) := by
  refine ⟨by simpa using h.1, fun q hq => ?_⟩
  rcases List.mem_or_eq_of_mem_set hq with hq | rfl
  · exact h.2 q hq
  · exact hp
theorem DrS.at {S : List (ByteArray × Int)} (h : DrS S) {i : Nat} {nm : ByteArray} {lv : Int} (hi : S[i]? = some (nm, lv)) : 1 ≤ lv ∧ lv ≤ 9 := (h.2 _ (List.mem_of_getElem? hi)).2
theorem DrS.cn {S : List (ByteArray × Int)} (h : DrS S) : ∀ i, i ≤ S.length → 1 ≤ cnZ (S.take i) ∧ cnZ (S.take i) ≤ 9 ^ i
  | 0, _ => ⟨Int.le_refl _, Int.le_refl _⟩
  | i + 1, hi => by
    obtain ⟨a, b⟩ := DrS.cn h i (by omega)
    have hl : i < S.length := hi
    have hat : S[i]? = some (S[i].1, S[i].2) := List.getElem?_eq_getElem hl
    obtain ⟨c, d⟩ := h.at hat
    rw [take_snoc hat, cnZ_snoc]
    have h1 : 1 ≤ cnZ (S.take i) * S[i].2 := by have := Int.mul_le_mul a c (by omega) (by omega); simpa using this
    have h2 : cnZ (S.take i) * S[i].2 ≤ 9 ^ i * 9 := Int.mul_le_mul b d (by omega) (Int.le_trans (by omega) b)
    rw [Int.pow_succ]
    exact ⟨h1, h2⟩
theorem DrS.cn_le {S : List (ByteArray × Int)} (h : DrS S) {i : Nat} (hi : i ≤ S.length) : 1 ≤ cnZ (S.take i) ∧ cnZ (S.take i) ≤ 4782969 := by
  obtain ⟨a, b⟩ := h.cn i hi
  refine ⟨a, Int.le_trans b ?_⟩
  have hl := h.1
  have : (9 : Int) ^ i ≤ 9 ^ 7 := by
    have := Nat.pow_le_pow_right (show 0 < 9 by omega) (show i ≤ 7 by omega)
    exact_mod_cast this
  exact Int.le_trans this (by decide)
theorem DrS.sin {S : List (ByteArray × Int)} (h : DrS S) : S.length ≤ 1048576 ∧ ∀ p ∈ S, p.1.size ≤ 9223372036854775807 ∧ IsI64 p.2 := by
  have hl := h.1
  refine ⟨by omega, fun p hp => ?_⟩
  obtain ⟨a, b, c⟩ := h.2 p hp
  exact ⟨by omega, by unfold IsI64; omega⟩
set_option maxHeartbeats 1000000 in
theorem sCountD_any (x : Option Addr) (cap : Nat) (S : List (ByteArray × Int)) (w : World) (hd : DrS S) (hS : Rd w x (vC S)) :
    Calls Tryz.prog 51 #[.slice x S.length cap] w fun e w' => e = .returned (.int .i64 (cnZ S)) ∧ Below w.heap.size w w' := by
  have hm := hd.1
  replace hd := Lib.hid hd
  go_enter Tryz.func51, Tryz.ntmps51
  go_wp2
  go_loopw [3, 8] (fun q c wr => ∃ i : Nat, i ≤ S.length ∧ c = .int .i64 i ∧ q = .int .i64 (cnZ (S.take i)) ∧ Below w.heap.size w wr) (fun _ c _ => S.length - (intOf c).toNat)
  case atStart => exact ⟨0, by omega, rfl, rfl, Below.refl _ _⟩
  case round =>
    obtain ⟨i, hi, rfl, rfl, hb⟩ := hrel
    have hcn := hd.out.cn_le hi
    by_cases hlt : i < S.length
    · obtain ⟨bl, off, nm, lv, rfl, hbl, hSi, hc0, hc1⟩ := (hS.below hb).var hlt
      have hc2 := hd.out.cn_le (show i + 1 ≤ S.length from hlt)
      have e : cnZ (S.take (i + 1)) = cnZ (S.take i) * lv := by rw [take_snoc hSi, cnZ_snoc]
      rw [e] at hc2
      have e := Lib.hid e
      obtain ⟨m1, m2⟩ := hc2
      clear hS hSi
      have hlt' : (i : Int) < (S.length : Int) := by omega
      go_wp2
      go_roundw
      case rel => exact ⟨i + 1, by omega, by go_num, by rw [e.out], (by repeat (first | exact Below.refl _ _ | assumption | refine Below.drew ?_ | refine below_drewN ?_ _ | refine Below.alloc' ?_ _ | (refine Below.setCell ?_ (by first | omega | (simp; done) | (simp; omega) | exact Below.size (by assumption) | exact Nat.le_trans (Below.size (by assumption)) (by simp)) _) | (refine Below.via' ?_ (by assumption)) | (refine Below.alloc ?_ (by first | omega | (simp; done) | (simp; omega) | exact Below.size (by assumption) | exact Nat.le_trans (Below.size (by assumption)) (by simp)) _) | (refine Below.via ?_ (by assumption) (by first | omega | (simp; done) | (simp; omega) | exact Below.size (by assumption) | exact Nat.le_trans (Below.size (by assumption)) (by simp)))))⟩
      case measure => simp [intOf]; omega
    · have hij : i = S.length := by omega
      subst hij
      clear hS hcn
      go_wp2
      go_ret
      exact ⟨ret_int (by rw [List.take_length]), hb⟩

/-- Whoever writes new blocks alone leaves what was there as the cursor's writer does. -/
theorem grown_far {w w1 w2 : World} {b : Nat} {r : Option Nat} (h : w.grownBy w1 (some b)) (k : w1.grownBy w2 r) (hr : ∀ j, r = some j → w.heap.size ≤ j) : w.grownBy w2 (some b) :=
  ⟨k.os.trans h.os, k.tape.trans h.tape, k.output.trans h.output, Nat.le_trans h.size k.size, fun j hj hne => (k.block j (Nat.lt_of_lt_of_le hj h.size) (fun e => by have := hr j e.symm; omega)).trans (h.block j hj hne)⟩
theorem wb_grown {w w' : World} {g : Nat} {t : TypeId} {cs : Array Value} {r : Option Nat} (h : Wb w g t cs) (hg : w.grownBy w' r) (hne : ∀ j, r = some j → j ≠ g) : Wb w' g t cs :=
  (hg.block g h.inside (fun e => hne g e.symm rfl)).trans h
/-- The names that are drawn from. -/
def nmsA : Array Value := #[.string ⟨#[115, 101, 120]⟩, .string ⟨#[97, 103, 101]⟩, .string ⟨#[106, 111, 98]⟩, .string ⟨#[104, 111, 109, 101]⟩, .string ⟨#[115, 105, 122, 101]⟩, .string ⟨#[108, 97, 110, 103]⟩]
def nmD (i : Nat) : ByteArray := if i = 0 then ⟨#[115, 101, 120]⟩ else if i = 1 then ⟨#[97, 103, 101]⟩ else ⟨#[106, 111, 98]⟩
theorem nmD_at {i : Nat} (h : i < 3) : nmsA[i]? = some (.string (nmD i)) := by
  rcases (by omega : i = 0 ∨ i = 1 ∨ i = 2) with rfl | rfl | rfl <;> rfl
theorem nmD_len (i : Nat) : (nmD i).size ≤ 9 := by unfold nmD; split; · decide
                                                   · split <;> decide
theorem own_cur2 {w w' : World} {b base e size n : Nat} {v : Value} {xs : List Value} (h : w.ownsRow base e size v n xs) (hb : b < base) (hg : w.grownBy w' (some b)) : w'.ownsRow base e size v n xs := by
  refine h.kept hg ?_
  cases hv : v.ownBlock with
  | none => exact Or.inl rfl
  | some k => exact Or.inr (fun e => by injection e with e; have := (h.lt k hv).1; omega)
theorem ByRd.drewW {w : World} {x : Option Addr} {n : Nat} (h : ByRd w x n) : ByRd w.drew x n := h
theorem drew_back {w w' : World} {r : Option Nat} (h : w.drew.grownBy w' r) : w.grownBy w' r := ⟨h.os, h.tape, h.output, h.size, h.block⟩
/-- What a draw of variables hands back. -/
def SchPost (b : Nat) (x : Option Addr) (n cap k more lo hi : Nat) (w : World) (e : Ending) (w' : World) : Prop :=
  ∃ (S : List (ByteArray × Int)) (v : Value) (k' : Nat), e = .returned v ∧ DrS S ∧ lo ≤ S.length ∧ S.length ≤ hi ∧ k ≤ k' ∧ k' ≤ k + more ∧ w'.ownsRow w.heap.size 99 2 v S.length (vC S) ∧ CurAt w' b x n cap k' ∧ w.grownBy w' (some b)
set_option maxHeartbeats 4000000 in
theorem schema_any (b : Nat) (x : Option Addr) (n cap k : Nat) (w : World) (hk : k + 100 ≤ 1000000000000) (hC : CurAt w b x n cap k) (hB : ByRd w x n) :
    Calls Tryz.prog 97 #[.pointer (some ⟨b, 0, none⟩)] w (SchPost b x n cap k 20 1 3 w) := by
  obtain ⟨i0, hi, hz0, hz1, hz2⟩ := info_parts Tryz.infoVar
  have hbs := hC.inside
  have hap := Lib.hid hC.apart
  have hC2 := Lib.hid hC
  have hB2 := Lib.hid hB
  clear hC hB
  go_enter Tryz.func97, Tryz.ntmps97
  go_wp2_with fail
  have g0 : w.grownBy (w.alloc (.cells nmsA 9)) (some b) := grown_alloc (grown_refl _ _) _
  have hN0 := Wb.new w 9 nmsA
  go_loopw [4, 5] (fun v c wr => ∃ (i kk : Nat) (L : List (ByteArray × Int)), i ≤ 3 ∧ L.length = i ∧ k ≤ kk ∧ kk ≤ k + 4 * i ∧ c = .int .i64 i ∧ wr.ownsRow (w.heap.size + 1) 99 2 v L.length (vC L) ∧ Hid (DrS L) ∧ Hid (CurAt wr b x n cap kk) ∧ Hid (w.grownBy wr (some b)) ∧ Hid (Wb wr w.heap.size 9 nmsA)) (fun _ c _ => 3 - (intOf c).toNat)
  case atStart => exact ⟨0, k, [], by omega, rfl, Nat.le_refl _, by omega, rfl, World.ownsRow_nil _ _ _ _, DrS.nil, hC2.out.alloc _, g0, hN0⟩
  case round =>
    clear g0 hN0
    obtain ⟨i, kk, L, hi3, hLi, hk1, hk2, rfl, hown, hD, hC, hg, hN⟩ := hrel
    have hbr := hC.out.inside
    have hws := hg.out.size
    replace hown := Lib.hid hown
    go_wp2_with fail
    refine (pick_any b x n cap kk 3 _ (by omega) (by omega) (by omega) hC.out (hB2.out.grown hg.out hap.out)).mono ?_
    rintro e w2 ⟨m, k2, rfl, m0, m1, ka, kb, hC3, hg3⟩
    have G2 := Lib.hid (grown_trans hg.out hg3)
    have N2 := Lib.hid (wb_grown hN.out hg3 (fun j hj => by injection hj with hj; omega))
    have O2 := Lib.hid (own_cur2 hown.out (by omega) hg3)
    have hs2 := G2.out.size
    replace hC3 := Lib.hid hC3
    by_cases hl : (i : Int) < 1 + m
    · have hi2 : i < 3 := by omega
      have hi2' : (i : Int) < 6 := by omega
      have hname := (N2.out.read i).trans (nmD_at hi2)
      have hnl := nmD_len i
      replace hLi := Lib.hid hLi
      have hLs : L.length ≤ 2 := by have := hLi.out; omega
      have hCd : Hid (CurAt w2.drew b x n cap k2) := hC3.out
      have hBd : Hid (ByRd w2.drew x n) := ByRd.drewW (hB2.out.grown G2.out hap.out)
      clear hown hC hg hN hg3 hC3
      go_wp2_with fail
      go_region_law (first
        | (go_simp; go_at_call 52; refine (pick_any b x n cap k2 3 w2.drew (by omega) (by omega) (by omega) hCd.out hBd.out).mono ?_; rintro e w4 ⟨q, k4, rfl, q0, q1, kc, kd, hC4, hg4⟩; (have hq1 : IntKind.i64.wrap (2 + q) = 2 + q := IntWalk.i64_in _ (by omega)); (have hg4 := drew_back hg4); (have O4 := Lib.hid (own_cur2 O2.out (by omega) hg4)); (have c4 := ((wb_grown N2.out hg4 (fun j hj => by injection hj with hj; omega)).read i).trans (nmD_at hi2)); (have hs4 := hg4.size); (have hC4 := Lib.hid hC4); (have hg4 := Lib.hid hg4))
        | (go_loud (refine step_append_rd _ rfl (.tmp 14) (.tmp 23) 23 rfl (w.heap.size + 1) 99 i0 (.agg #[.string ⟨#[]⟩, .int .i64 0]) 2 24 Tryz.underlying23 hi hz0 hz1 hz2 rfl (by decide) _ L.length (vC L) rfl (O4.out.alloc _) _ 1 1 rfl (Nat.le_refl _) (by intro h; cases h) (vC [(nmD i, 2 + q)]) rfl (Rd.oneV _ _ _ _) (vC_one _) (by unfold maxLen; omega) (by omega) (by simp; omega) ?_); intro v3 w3 hown3 hgrow3 hwhere3)
        )
      all_goals
        have hgr : (w4.alloc (.cells #[.string (nmD i), .int .i64 (2 + q)] 99)).grownBy w3 (Value.ownBlock u4) := hgrow3
        have hlow := Lib.hid O4.out.lt
        have G4 := grown_alloc (grown_trans G2.out hg4.out) (.cells #[.string (nmD i), .int .i64 (2 + q)] 99)
        have G3 := Lib.hid (grown_far G4 hgr (fun j hj => by have := (hlow.out j hj).1; omega))
        have C3 := Lib.hid ((hC4.out.alloc (.cells #[.string (nmD i), .int .i64 (2 + q)] 99)).far hgr (fun j hj => by have := (hlow.out j hj).1; omega))
        have N4 := wb_grown (wb_grown N2.out hg4.out (fun j hj => by injection hj with hj; omega)) (World.grownBy_alloc w4 (.cells #[.string (nmD i), .int .i64 (2 + q)] 99) none) (by intro j hj; cases hj)
        have N3 := Lib.hid (wb_grown N4 hgr (fun j hj => by have := (hlow.out j hj).1; omega))
        have hown4 := own_eq (n' := (L ++ [(nmD i, 2 + q)]).length) hown3 (by simp) (vC_app _ _).symm
        clear hgrow3 hwhere3 hgr hown3 G4 N4 c4 hname
        have hLi' := hLi.out
        go_wp2
        go_roundw
        case rel => exact ⟨i + 1, k4, L ++ [(nmD i, 2 + q)], by omega, by simp; omega, by omega, by omega, by go_num, hown4, hD.out.snoc (by omega) ⟨hnl, by show 1 ≤ 2 + q; omega, by show 2 + q ≤ 9; omega⟩, C3.out, G3.out, N3.out⟩
        case measure => simp [intOf]; omega
    · go_wp2_with fail
      go_ret
      have hLe := hLi
      exact ⟨L, u4, k2, rfl, hD.out, by omega, by omega, by omega, by omega, own_more O2.out (by omega), hC3.out, G2.out⟩
end Go.Proofs.YtcmfoclalcmamabGreatDoor
