import Derived.Test.YtjbhmofaackjpaaPjB
import Derived.Test.YtjbhmofaackjpaaSchM
import Derived.Test.YtjbhmofaackjpaaSchO
import Derived.Deep.RegionLaw
import Derived.Outline
import Derived.Test.YtjbhmofaackjpaaApp
import Derived.Test.YtjbhmofaackjpaaSch
namespace Go.Proofs.Ytjbhmofaackjpaa
open Go.RowKit
set_option maxRecDepth 100000

/-- A list of variables that is drawn. -/
def DrS (S : List (ByteArray × Int)) : Prop := S.length ≤ 7 ∧ ∀ p ∈ S, p.1.size ≤ 9 ∧ 1 ≤ p.2 ∧ p.2 ≤ 9
theorem DrS.nil : DrS [] := ⟨by simp, fun p hp => by cases hp⟩
theorem DrS.snoc {S : List (ByteArray × Int)} {p : ByteArray × Int} (h : DrS S) (hl : S.length ≤ 6) (hp : p.1.size ≤ 9 ∧ 1 ≤ p.2 ∧ p.2 ≤ 9) : DrS (S ++ [p]) := by
  refine ⟨by simp; omega, fun q hq => ?_⟩
  rcases List.mem_append.1 hq with hq | hq
  · exact h.2 q hq
  · simp at hq
    subst hq
    exact hp
theorem DrS.set {S : List (ByteArray × Int)} {p : ByteArray × Int} (h : DrS S) (k : Nat) (hp : p.1.size ≤ 9 ∧ 1 ≤ p.2 ∧ p.2 ≤ 9) : DrS (S.set k p) := by
  refine ⟨by simpa using h.1, fun q hq => ?_⟩
  rcases List.mem_or_eq_of_mem_set hq with hq | rfl
  · exact h.2 q hq
  · exact hp
theorem DrS.at {S : List (ByteArray × Int)} (h : DrS S) {i : Nat} {nm : ByteArray} {lv : Int} (hi : S[i]? = some (nm, lv)) : 1 ≤ lv ∧ lv ≤ 9 := (h.2 _ (List.mem_of_getElem? hi)).2
theorem DrS.cn {S : List (ByteArray × Int)} (h : DrS S) : ∀ i, i ≤ S.length → 1 ≤ cnZ (S.take i) ∧ cnZ (S.take i) ≤ 9 ^ i
  | 0, _ => ⟨Int.le_refl _, Int.le_refl _⟩
  | i + 1, hi => by
    obtain ⟨a, b⟩ := DrS.cn h i (by omega)
    have hl : i < S.length := hi
    have hat : S[i]? = some (S[i].1, S[i].2) := List.getElem?_eq_getElem hl
    obtain ⟨c, d⟩ := h.at hat
    rw [take_snoc hat, cnZ_snoc]
    have h1 : 1 ≤ cnZ (S.take i) * S[i].2 := by have := Int.mul_le_mul a c (by omega) (by omega); simpa using this
    have h2 : cnZ (S.take i) * S[i].2 ≤ 9 ^ i * 9 := Int.mul_le_mul b d (by omega) (Int.le_trans (by omega) b)
    rw [Int.pow_succ]
    exact ⟨h1, h2⟩
theorem DrS.cn_le {S : List (ByteArray × Int)} (h : DrS S) {i : Nat} (hi : i ≤ S.length) : 1 ≤ cnZ (S.take i) ∧ cnZ (S.take i) ≤ 4782969 := by
  obtain ⟨a, b⟩ := h.cn i hi
  refine ⟨a, Int.le_trans b ?_⟩
  have hl := h.1
  have : (9 : Int) ^ i ≤ 9 ^ 7 := by
    have := Nat.pow_le_pow_right (show 0 < 9 by omega) (show i ≤ 7 by omega)
    exact_mod_cast this
  exact Int.le_trans this (by decide)
theorem DrS.sin {S : List (ByteArray × Int)} (h : DrS S) : S.length ≤ 1048576 ∧ ∀ p ∈ S, p.1.size ≤ 9223372036854775807 ∧ IsI64 p.2 := by
  have hl := h.1
  refine ⟨by omega, fun p hp => ?_⟩
  obtain ⟨a, b, c⟩ := h.2 p hp
  exact ⟨by omega, by unfold IsI64; omega⟩
set_option maxHeartbeats 1000000 in
theorem sCountD_any (x : Option Addr) (cap : Nat) (S : List (ByteArray × Int)) (w : World) (hd : DrS S) (hS : Rd w x (vC S)) :
    Calls Try.prog 22 #[.slice x S.length cap] w fun e w' => e = .returned (.int .i64 (cnZ S)) ∧ Below w.heap.size w w' := by
  have hm := hd.1
  replace hd := Lib.hid hd
  go_enter Try.func22, Try.ntmps22
  go_wp2
  go_loopw [3, 8] (fun q c wr => ∃ i : Nat, i ≤ S.length ∧ c = .int .i64 i ∧ q = .int .i64 (cnZ (S.take i)) ∧ Below w.heap.size w wr) (fun _ c _ => S.length - (intOf c).toNat)
  case atStart => exact ⟨0, by omega, rfl, rfl, Below.refl _ _⟩
  case round =>
    obtain ⟨i, hi, rfl, rfl, hb⟩ := hrel
    have hcn := hd.out.cn_le hi
    by_cases hlt : i < S.length
    · obtain ⟨bl, off, nm, lv, rfl, hbl, hSi, hc0, hc1⟩ := (hS.below hb).var hlt
      have hc2 := hd.out.cn_le (show i + 1 ≤ S.length from hlt)
      have e : cnZ (S.take (i + 1)) = cnZ (S.take i) * lv := by rw [take_snoc hSi, cnZ_snoc]
      rw [e] at hc2
      have e := Lib.hid e
      obtain ⟨m1, m2⟩ := hc2
      clear hS hSi
      have hlt' : (i : Int) < (S.length : Int) := by omega
      go_wp2
      go_roundw
      case rel => exact ⟨i + 1, by omega, by go_num, by rw [e.out], (by repeat (first | exact Below.refl _ _ | assumption | refine Below.drew ?_ | refine below_drewN ?_ _ | refine Below.alloc' ?_ _ | (refine Below.setCell ?_ (by first | omega | (simp; done) | (simp; omega) | exact Below.size (by assumption) | exact Nat.le_trans (Below.size (by assumption)) (by simp)) _) | (refine Below.via' ?_ (by assumption)) | (refine Below.alloc ?_ (by first | omega | (simp; done) | (simp; omega) | exact Below.size (by assumption) | exact Nat.le_trans (Below.size (by assumption)) (by simp)) _) | (refine Below.via ?_ (by assumption) (by first | omega | (simp; done) | (simp; omega) | exact Below.size (by assumption) | exact Nat.le_trans (Below.size (by assumption)) (by simp)))))⟩
      case measure => simp [intOf]; omega
    · have hij : i = S.length := by omega
      subst hij
      clear hS hcn
      go_wp2
      go_ret
      exact ⟨ret_int (by rw [List.take_length]), hb⟩

/-- Whoever writes new blocks alone leaves what was there as the cursor's writer does. -/
theorem grown_far {w w1 w2 : World} {b : Nat} {r : Option Nat} (h : w.grownBy w1 (some b)) (k : w1.grownBy w2 r) (hr : ∀ j, r = some j → w.heap.size ≤ j) : w.grownBy w2 (some b) :=
  ⟨k.os.trans h.os, k.tape.trans h.tape, k.output.trans h.output, Nat.le_trans h.size k.size, fun j hj hne => (k.block j (Nat.lt_of_lt_of_le hj h.size) (fun e => by have := hr j e.symm; omega)).trans (h.block j hj hne)⟩
theorem wb_grown {w w' : World} {g : Nat} {t : TypeId} {cs : Array Value} {r : Option Nat} (h : Wb w g t cs) (hg : w.grownBy w' r) (hne : ∀ j, r = some j → j ≠ g) : Wb w' g t cs :=
  (hg.block g h.inside (fun e => hne g e.symm rfl)).trans h
/-- The names that are drawn from. -/
def nmsA : Array Value := #[.string ⟨#[115, 101, 120]⟩, .string ⟨#[97, 103, 101]⟩, .string ⟨#[106, 111, 98]⟩, .string ⟨#[104, 111, 109, 101]⟩, .string ⟨#[115, 105, 122, 101]⟩, .string ⟨#[108, 97, 110, 103]⟩]
def nmD (i : Nat) : ByteArray := if i = 0 then ⟨#[115, 101, 120]⟩ else if i = 1 then ⟨#[97, 103, 101]⟩ else ⟨#[106, 111, 98]⟩
theorem nmD_at {i : Nat} (h : i < 3) : nmsA[i]? = some (.string (nmD i)) := by
  rcases (by omega : i = 0 ∨ i = 1 ∨ i = 2) with rfl | rfl | rfl <;> rfl
theorem nmD_len (i : Nat) : (nmD i).size ≤ 9 := by unfold nmD; split; · decide
                                                   · split <;> decide
theorem own_cur2 {w w' : World} {b base e size n : Nat} {v : Value} {xs : List Value} (h : w.ownsRow base e size v n xs) (hb : b < base) (hg : w.grownBy w' (some b)) : w'.ownsRow base e size v n xs := by
  refine h.kept hg ?_
  cases hv : v.ownBlock with
  | none => exact Or.inl rfl
  | some k => exact Or.inr (fun e => by injection e with e; have := (h.lt k hv).1; omega)
theorem ByRd.drewW {w : World} {x : Option Addr} {n : Nat} (h : ByRd w x n) : ByRd w.drew x n := h
theorem drew_back {w w' : World} {r : Option Nat} (h : w.drew.grownBy w' r) : w.grownBy w' r := ⟨h.os, h.tape, h.output, h.size, h.block⟩
/-- What a draw of variables hands back. -/
def SchPost (b : Nat) (x : Option Addr) (n cap k more lo hi : Nat) (w : World) (e : Ending) (w' : World) : Prop :=
  ∃ (S : List (ByteArray × Int)) (v : Value) (k' : Nat), e = .returned v ∧ DrS S ∧ lo ≤ S.length ∧ S.length ≤ hi ∧ k ≤ k' ∧ k' ≤ k + more ∧ w'.ownsRow w.heap.size 68 2 v S.length (vC S) ∧ CurAt w' b x n cap k' ∧ w.grownBy w' (some b)
set_option maxHeartbeats 4000000 in
theorem schema_any (b : Nat) (x : Option Addr) (n cap k : Nat) (w : World) (hk : k + 100 ≤ 1000000000000) (hC : CurAt w b x n cap k) (hB : ByRd w x n) :
    Calls Try.prog 42 #[.pointer (some ⟨b, 0, none⟩)] w (SchPost b x n cap k 20 1 3 w) := by
  obtain ⟨i0, hi, hz0, hz1, hz2⟩ := info_parts Try.infoVar
  have hbs := hC.inside
  have hap := Lib.hid hC.apart
  have hC2 := Lib.hid hC
  have hB2 := Lib.hid hB
  clear hC hB
  go_enter Try.func42, Try.ntmps42
  go_wp2_with fail
  have g0 : w.grownBy (w.alloc (.cells nmsA 9)) (some b) := grown_alloc (grown_refl _ _) _
  have hN0 := Wb.new w 9 nmsA
  go_loopw [4, 5] (fun v c wr => ∃ (i kk : Nat) (L : List (ByteArray × Int)), i ≤ 3 ∧ L.length = i ∧ k ≤ kk ∧ kk ≤ k + 4 * i ∧ c = .int .i64 i ∧ wr.ownsRow (w.heap.size + 1) 68 2 v L.length (vC L) ∧ Hid (DrS L) ∧ Hid (CurAt wr b x n cap kk) ∧ Hid (w.grownBy wr (some b)) ∧ Hid (Wb wr w.heap.size 9 nmsA)) (fun _ c _ => 3 - (intOf c).toNat)
  case atStart => exact ⟨0, k, [], by omega, rfl, Nat.le_refl _, by omega, rfl, World.ownsRow_nil _ _ _ _, DrS.nil, hC2.out.alloc _, g0, hN0⟩
  case round =>
    clear g0 hN0
    obtain ⟨i, kk, L, hi3, hLi, hk1, hk2, rfl, hown, hD, hC, hg, hN⟩ := hrel
    have hbr := hC.out.inside
    have hws := hg.out.size
    replace hown := Lib.hid hown
    go_wp2_with fail
    refine (pick_any b x n cap kk 3 _ (by omega) (by omega) (by omega) hC.out (hB2.out.grown hg.out hap.out)).mono ?_
    rintro e w2 ⟨m, k2, rfl, m0, m1, ka, kb, hC3, hg3⟩
    have G2 := Lib.hid (grown_trans hg.out hg3)
    have N2 := Lib.hid (wb_grown hN.out hg3 (fun j hj => by injection hj with hj; omega))
    have O2 := Lib.hid (own_cur2 hown.out (by omega) hg3)
    have hs2 := G2.out.size
    replace hC3 := Lib.hid hC3
    by_cases hl : (i : Int) < 1 + m
    · have hi2 : i < 3 := by omega
      have hi2' : (i : Int) < 6 := by omega
      have hname := (N2.out.read i).trans (nmD_at hi2)
      have hnl := nmD_len i
      replace hLi := Lib.hid hLi
      have hLs : L.length ≤ 2 := by have := hLi.out; omega
      have hCd : Hid (CurAt w2.drew b x n cap k2) := hC3.out
      have hBd : Hid (ByRd w2.drew x n) := ByRd.drewW (hB2.out.grown G2.out hap.out)
      clear hown hC hg hN hg3 hC3
      go_wp2_with fail
      go_region_law (first
        | (go_simp; go_at_call 43; refine (pick_any b x n cap k2 3 w2.drew (by omega) (by omega) (by omega) hCd.out hBd.out).mono ?_; rintro e w4 ⟨q, k4, rfl, q0, q1, kc, kd, hC4, hg4⟩; (have hq1 : IntKind.i64.wrap (2 + q) = 2 + q := IntWalk.i64_in _ (by omega)); (have hg4 := drew_back hg4); (have O4 := Lib.hid (own_cur2 O2.out (by omega) hg4)); (have c4 := ((wb_grown N2.out hg4 (fun j hj => by injection hj with hj; omega)).read i).trans (nmD_at hi2)); (have hs4 := hg4.size); (have hC4 := Lib.hid hC4); (have hg4 := Lib.hid hg4))
        | (go_loud (refine step_append_rd _ rfl (.tmp 14) (.tmp 23) 24 rfl (w.heap.size + 1) 68 i0 (.agg #[.string ⟨#[]⟩, .int .i64 0]) 2 24 Try.underlying24 hi hz0 hz1 hz2 rfl (by decide) _ L.length (vC L) rfl (O4.out.alloc _) _ 1 1 rfl (Nat.le_refl _) (by intro h; cases h) (vC [(nmD i, 2 + q)]) rfl (Rd.oneV _ _ _ _) (vC_one _) (by unfold maxLen; omega) (by omega) (by simp; omega) ?_); intro v3 w3 hown3 hgrow3 hwhere3)
        )
      all_goals
        have hgr : (w4.alloc (.cells #[.string (nmD i), .int .i64 (2 + q)] 68)).grownBy w3 (Value.ownBlock u4) := hgrow3
        have hlow := Lib.hid O4.out.lt
        have G4 := grown_alloc (grown_trans G2.out hg4.out) (.cells #[.string (nmD i), .int .i64 (2 + q)] 68)
        have G3 := Lib.hid (grown_far G4 hgr (fun j hj => by have := (hlow.out j hj).1; omega))
        have C3 := Lib.hid ((hC4.out.alloc (.cells #[.string (nmD i), .int .i64 (2 + q)] 68)).far hgr (fun j hj => by have := (hlow.out j hj).1; omega))
        have N4 := wb_grown (wb_grown N2.out hg4.out (fun j hj => by injection hj with hj; omega)) (World.grownBy_alloc w4 (.cells #[.string (nmD i), .int .i64 (2 + q)] 68) none) (by intro j hj; cases hj)
        have N3 := Lib.hid (wb_grown N4 hgr (fun j hj => by have := (hlow.out j hj).1; omega))
        have hown4 := own_eq (n' := (L ++ [(nmD i, 2 + q)]).length) hown3 (by simp) (vC_app _ _).symm
        clear hgrow3 hwhere3 hgr hown3 G4 N4 c4 hname
        have hLi' := hLi.out
        go_wp2
        go_roundw
        case rel => exact ⟨i + 1, k4, L ++ [(nmD i, 2 + q)], by omega, by simp; omega, by omega, by omega, by go_num, hown4, hD.out.snoc (by omega) ⟨hnl, by show 1 ≤ 2 + q; omega, by show 2 + q ≤ 9; omega⟩, C3.out, G3.out, N3.out⟩
        case measure => simp [intOf]; omega
    · go_wp2_with fail
      go_ret
      have hLe := hLi
      exact ⟨L, u4, k2, rfl, hD.out, by omega, by omega, by omega, by omega, own_more O2.out (by omega), hC3.out, G2.out⟩
end Go.Proofs.Ytjbhmofaackjpaa

namespace Go.Proofs.Ytjbhmofaackjpaa
open Go.RowKit
set_option maxRecDepth 100000

theorem Try.infoStr : (Try.prog.info? 9).map (fun i => (i.zero, i.size, i.bytes)) = some (some (.string ⟨#[]⟩), 1, 16) := by kernel_rfl
/-- The cells of a list of texts. -/
def tC (L : List ByteArray) : List Value := L.map Value.string
theorem tC_len (L : List ByteArray) : (tC L).length = L.length := by unfold tC; simp
theorem tC_app (A B : List ByteArray) : tC (A ++ B) = tC A ++ tC B := by unfold tC; rw [List.map_append]
theorem tC_one (L : List ByteArray) : ∀ u ∈ tC L, u.oneCell' = true := by
  intro u hu
  obtain ⟨x, _, rfl⟩ := List.mem_map.1 hu
  rfl
theorem tC_at {L : List ByteArray} {i : Nat} {v : ByteArray} (h : L[i]? = some v) : (tC L)[i]? = some (.string v) := by unfold tC; rw [List.getElem?_map, h]; rfl
theorem Rd.oneS (w : World) (t : TypeId) (s : ByteArray) : Rd (w.alloc (.cells #[.string s] t)) (some ⟨w.heap.size, 0, none⟩) (tC [s]) := by
  refine Or.inr ⟨w.heap.size, 0, rfl, by simp, fun j u hj => ?_⟩
  have : j = 0 := by
    have := (List.getElem?_eq_some_iff.1 hj).1
    simp [tC] at this
    exact this
  subst this
  simp [tC] at hj
  subst hj
  rw [World.cell?_alloc_at _ _ _ _ rfl]
  rfl
theorem Rd.text {w : World} {x : Option Addr} {L : List ByteArray} {i : Nat} (h : Rd w x (tC L)) (hi : i < L.length) :
    ∃ b off s, x = some ⟨b, off, none⟩ ∧ b < w.heap.size ∧ L[i]? = some s ∧ w.cell? ⟨b, off + i, none⟩ = some (.string s) := by
  rcases h with h | ⟨b, off, e, hl, hc⟩
  · have := tC_len L
    rw [h] at this
    simp at this
    omega
  · exact ⟨b, off, L[i], e, hl, List.getElem?_eq_getElem hi, hc i _ (tC_at (List.getElem?_eq_getElem hi))⟩

theorem own_some2 {w : World} {base e size n : Nat} {v : Value} {xs : List Value} (h : w.ownsRow base e size v n xs) (hn : 0 < n) : ∃ g cap, v = .slice (some ⟨g, 0, none⟩) n cap := by
  rcases h.2 with ⟨_, h2⟩ | ⟨g, cap, cur, hv, _⟩
  · omega
  · exact ⟨g, cap, hv⟩
/-- One byte, read back as a string. -/
def byteT (n : Int) : ByteArray := ⟨#[UInt8.ofNat n.toNat]⟩
theorem conv_byte (n : Int) (h0 : 0 ≤ n) (h1 : n < 256) : ∀ (W : World) (g : Nat), W.cell? ⟨g, 0, none⟩ = some (.int .u8 n) →
    (convert 22 9 (.slice (some ⟨g, 0, none⟩) 1 1)).run Try.prog W = .ok (.string (byteT n)) W := by
  intro W g h
  have e : ((UInt8.ofNat n.toNat).toNat : Int) = n := by simp; omega
  exact run_convert_bytes_back W 22 9 5 ⟨g, 0, none⟩ 1 [UInt8.ofNat n.toNat] Try.underlying22 Try.underlying5 Try.underlying9 (fun j hj => by
    obtain rfl : j = 0 := by simpa using hj
    show W.cell? ((⟨g, 0, none⟩ : Addr).add 0) = some (.int .u8 ((UInt8.ofNat n.toNat).toNat : Int))
    rw [e]
    simpa [Addr.add] using h)
theorem byteT_len (n : Int) : (byteT n).size = 1 := rfl
end Go.Proofs.Ytjbhmofaackjpaa

namespace Go.Proofs.Ytjbhmofaackjpaa
open Go.RowKit
set_option maxRecDepth 100000

theorem Rd.litS (w : World) (L : List ByteArray) (ty : TypeId) : Rd (w.alloc (.cells (L.map Value.string).toArray ty)) (some ⟨w.heap.size, 0, none⟩) (tC L) := by
  refine Or.inr ⟨w.heap.size, 0, rfl, by simp, fun j u hj => ?_⟩
  rw [World.cell?_alloc_at _ _ _ _ rfl, Nat.zero_add, List.getElem?_toArray]
  exact hj
def OfPost (b : Nat) (x : Option Addr) (n cap k : Nat) (L : List ByteArray) (w : World) (e : Ending) (w' : World) : Prop :=
  ∃ (s : ByteArray) (k' : Nat), e = .returned (.string s) ∧ s ∈ L ∧ k ≤ k' ∧ k' ≤ k + 2 ∧ CurAt w' b x n cap k' ∧ w.grownBy w' (some b)
set_option maxHeartbeats 1000000 in
theorem of_any (b : Nat) (x : Option Addr) (n cap k c : Nat) (c2 : Nat) (L : List ByteArray) (w : World) (hk : k + 2 ≤ 1000000000000) (hl : 1 ≤ L.length) (hl2 : L.length ≤ 1000) (hcb : c ≠ b)
    (hL : Rd w (some ⟨c, 0, none⟩) (tC L)) (hC : CurAt w b x n cap k) (hB : ByRd w x n) :
    Calls Try.prog 45 #[.pointer (some ⟨b, 0, none⟩), .slice (some ⟨c, 0, none⟩) L.length c2] w (OfPost b x n cap k L w) := by
  have hC2 := Lib.hid hC
  have hB2 := Lib.hid hB
  have hL2 := Lib.hid hL
  clear hC hB hL
  go_enter Try.func45, Try.ntmps45
  go_wp2_with fail
  refine (pick_any b x n cap k L.length w hk (by omega) (by omega) hC2.out hB2.out).mono ?_
  rintro e w1 ⟨v, k', rfl, v0, v1, k0, k1, hC3, hg⟩
  have hC3 := Lib.hid hC3
  obtain ⟨i, rfl⟩ := Int.eq_ofNat_of_zero_le v0
  have hi : i < L.length := by omega
  obtain ⟨c', off, s, e1, hc, hLi, hr⟩ := hL2.out.text hi
  injection e1 with e1
  injection e1 with e1 e2
  subst e1 e2
  rw [Nat.zero_add] at hr
  have hcell : w1.cell? ⟨c, i, none⟩ = some (.string s) := (World.cell?_of_block (hg.block c hc (fun q => hcb (by injection q)))).trans hr
  have hmem := Lib.hid (List.mem_of_getElem? hLi)
  clear hLi hr
  go_wp2
  go_ret
  exact ⟨s, k', rfl, hmem.out, k0, k1, hC3.out, hg⟩
theorem vC_nam0 {S : List (ByteArray × Int)} {nm nm' : ByteArray} {lv : Int} (h : S[0]? = some (nm, lv)) : vC (S.set 0 (nm', lv)) = (vC S).set 0 (.string nm') := by
  cases S with
  | nil => cases h
  | cons p r =>
    simp at h
    subst h
    rfl
theorem vC_lev0 {S : List (ByteArray × Int)} {nm : ByteArray} {lv lv' : Int} (h : S[0]? = some (nm, lv)) : vC (S.set 0 (nm, lv')) = (vC S).set 1 (.int .i64 lv') := by
  cases S with
  | nil => cases h
  | cons p r =>
    simp at h
    subst h
    rfl
theorem Rd.oneV_at (w : World) (t : TypeId) (s : ByteArray) (n : Int) (g : Nat) (h : w.heap.size = g) : Rd (w.alloc (.cells #[.string s, .int .i64 n] t)) (some ⟨g, 0, none⟩) (vC [(s, n)]) := by subst h; exact Rd.oneV w t s n
theorem grown_setAt {w w' : World} {b g : Nat} (h : w.grownBy w' (some b)) (hg : w.heap.size ≤ g) (o : Nat) (v : Value) : w.grownBy (w'.setCell ⟨g, o, none⟩ v) (some b) := grown_set h hg o v
set_option maxHeartbeats 8000000 in
theorem anySchema_any (b : Nat) (x : Option Addr) (n cap k : Nat) (w : World) (hk : k + 200 ≤ 1000000000000) (hC : CurAt w b x n cap k) (hB : ByRd w x n) :
    Calls Try.prog 26 #[.pointer (some ⟨b, 0, none⟩)] w (SchPost b x n cap k 100 0 7 w) := by
  obtain ⟨i0, hi, hz0, hz1, hz2⟩ := info_parts Try.infoVar
  have hbs := hC.inside
  have hap := Lib.hid hC.apart
  have hC2 := Lib.hid hC
  have hB2 := Lib.hid hB
  clear hC hB
  go_enter Try.func26, Try.ntmps26
  go_wp2_with fail
  refine (schema_any b x n cap k _ (by omega) hC2.out hB2.out).mono ?_
  rintro e w1 ⟨S, v, k1, rfl, hD, hl1, hl3, ka, kb, hown, hC1, hg1⟩
  obtain ⟨g, cg, rfl⟩ := own_some2 hown (by omega)
  have hgl := own_lt hown
  have hs1 := hg1.size
  have hgb : g ≠ b := by omega
  replace hown := Lib.hid hown
  replace hC1 := Lib.hid hC1
  replace hg1 := Lib.hid hg1
  replace hD := Lib.hid hD
  go_wp2_with fail
  refine (pick_any b x n cap k1 24 _ (by omega) (by omega) (by omega) hC1.out (hB2.out.grown hg1.out hap.out)).mono ?_
  rintro e w2 ⟨m, k2, rfl, m0, m1, kc, kd, hC3, hg2⟩
  have G2 := Lib.hid (grown_trans hg1.out hg2)
  have O2 := Lib.hid (own_cur2 hown.out (by omega) hg2)
  have hs2 := hg2.size
  replace hC3 := Lib.hid hC3
  clear hown hC1 hg1 hg2
  have hS0 : S[0]? = some (S[0].1, S[0].2) := List.getElem?_eq_getElem (by omega)
  have hp0 := hD.out.2 _ (List.mem_of_getElem? hS0)
  have hlp : (0 : Int) < (S.length : Int) := by omega
  by_cases e0 : m = 0
  · subst e0
    go_wp2_with fail
    refine (among_any b x n cap k2 w2.heap.size _ [1, 8, 9] _ (by omega) (by simp) (by simp) (by have := hC3.out.inside; omega) (IRd.lit w2 [1, 8, 9] 3) (hC3.out.alloc _) ((hB2.out.grown G2.out hap.out).alloc _)).mono ?_
    rintro e w3 ⟨lv, k3, rfl, hmem, ke, kf, hC4, hg3⟩
    have hlv : 1 ≤ lv ∧ lv ≤ 9 := by simp at hmem; omega
    have hg3' := grown_trans (grown_alloc (grown_refl w2 (some b)) _) hg3
    have G3 := Lib.hid (grown_trans G2.out hg3')
    have O3 := Lib.hid (own_cur2 O2.out (by omega) hg3')
    obtain ⟨u, hu, c0⟩ := own_cell O3.out (j := 1) (by omega)
    have c1 := O3.out.frozenAt 1
    replace hC4 := Lib.hid hC4
    replace hu := Lib.hid hu
    replace hS0 := Lib.hid hS0
    clear hmem hg3
    go_wp2_with fail
    go_ret
    have hr := (O3.out.stored 1 (.int .i64 lv)).1
    rw [← vC_lev0 hS0.out] at hr
    refine ⟨S.set 0 (S[0].1, lv), _, k3, ?_, hD.out.set 0 ⟨hp0.1, hlv.1, hlv.2⟩, by omega, by simp; omega, by omega, by omega, own_eq hr (by simp) rfl, hC4.out.set hgb 1 _, grown_setAt G3.out (by omega) 1 _⟩
    simp
  by_cases e1 : m = 1
  · subst e1
    go_wp2_with fail
    refine (of_any b x n cap k2 w2.heap.size _ [⟨#[]⟩, ⟨#[65, 103, 101]⟩, ⟨#[97, 98, 99, 100, 101, 102, 103, 104, 105]⟩, ⟨#[97, 103, 101]⟩, ⟨#[97, 98, 32, 99, 100]⟩] _ (by omega) (by simp) (by simp) (by have := hC3.out.inside; omega) (Rd.litS w2 _ 9) (hC3.out.alloc _) ((hB2.out.grown G2.out hap.out).alloc _)).mono ?_
    rintro e w3 ⟨nm, k3, rfl, hmem, ke, kf, hC4, hg3⟩
    have hnm : nm.size ≤ 9 := by
      simp only [List.mem_cons, List.not_mem_nil, or_false] at hmem
      rcases hmem with rfl | rfl | rfl | rfl | rfl <;> decide
    have hg3' := grown_trans (grown_alloc (grown_refl w2 (some b)) _) hg3
    have G3 := Lib.hid (grown_trans G2.out hg3')
    have O3 := Lib.hid (own_cur2 O2.out (by omega) hg3')
    obtain ⟨u, hu, c0⟩ := own_cell O3.out (j := 0) (by omega)
    have c1 := O3.out.frozenAt 0
    replace hC4 := Lib.hid hC4
    replace hu := Lib.hid hu
    replace hS0 := Lib.hid hS0
    clear hmem hg3
    go_wp2_with fail
    go_ret
    have hr := (O3.out.stored 0 (.string nm)).1
    rw [← vC_nam0 hS0.out] at hr
    refine ⟨S.set 0 (nm, S[0].2), _, k3, ?_, hD.out.set 0 ⟨hnm, hp0.2.1, hp0.2.2⟩, by omega, by simp; omega, by omega, by omega, own_eq hr (by simp) rfl, hC4.out.set hgb 0 _, grown_setAt G3.out (by omega) 0 _⟩
    simp
  by_cases e2 : m = 2
  · subst e2
    go_wp2_with fail
    go_ret
    exact ⟨[], _, k2, rfl, DrS.nil, by simp, by simp, by omega, by omega, World.ownsRow_nil _ _ _ _, hC3.out, G2.out⟩
  by_cases e3 : m = 3
  · subst e3
    have hz := hs1
    go_wp2_with fail
    go_loopw [3] (fun v wr => ∃ (kk : Nat) (L : List (ByteArray × Int)), L.length ≤ 7 ∧ 1 ≤ L.length ∧ k ≤ kk ∧ kk ≤ k + 30 + 2 * L.length ∧ wr.ownsRow w.heap.size 68 2 v L.length (vC L) ∧ Hid (DrS L) ∧ Hid (CurAt wr b x n cap kk) ∧ Hid (w.grownBy wr (some b))) (fun v _ => 8 - lenV v)
    case atStart => exact ⟨k2, S, by omega, hl1, by omega, by omega, O2.out, hD.out, hC3.out, G2.out⟩
    case round =>
      clear O2 hC3 G2 hD hS0 hp0 hlp hgl hgb
      obtain ⟨kk, L, hL7, hL1, hk1, hk2, hown, hDL, hC, hG⟩ := hrel
      have hbr := hC.out.inside
      have hws := hG.out.size
      obtain ⟨g2, c2, rfl⟩ := own_some2 hown (by omega)
      replace hown := Lib.hid hown
      go_wp2_with fail
      refine (pick_any b x n cap kk 2 _ (by omega) (by omega) (by omega) hC.out (hB2.out.grown hG.out hap.out)).mono ?_
      rintro e w4 ⟨q, k4, rfl, q0, q1, ke, kf, hC4, hg4⟩
      have G4 := Lib.hid (grown_trans hG.out hg4)
      have O4 := Lib.hid (own_cur2 hown.out (by omega) hg4)
      have hs4 := hg4.size
      replace hC4 := Lib.hid hC4
      clear hown hC hG hg4
      by_cases hl : (L.length : Int) < 6 + q
      · have hcv := conv_byte (97 + (L.length : Int)) (by omega) (by omega)
        have hb1 := byteT_len (97 + (L.length : Int))
        have h120 : (⟨#[120]⟩ : ByteArray).size = 1 := rfl
        have hsz : ¬ 9223372036854775807 < (⟨#[120]⟩ : ByteArray).size + (byteT (97 + (L.length : Int))).size := by rw [hb1, h120]; omega
        have hns : Hid ((⟨#[120]⟩ ++ byteT (97 + (L.length : Int))).size ≤ 9) := by unfold Hid; rw [ByteArray.size_append, hb1, h120]; omega
        have q6 : IntKind.u8.wrap (97 + (L.length : Int)) = 97 + (L.length : Int) := by simp [IntKind.wrap, IntKind.bits, IntKind.signed]; omega
        clear hb1 h120
        go_wp2_with (at_builtin; go_loud (refine wpList_append_rd _ rfl (.tmp 34) (.tmp 43) 24 rfl w.heap.size 68 i0 (.agg #[.string ⟨#[]⟩, .int .i64 0]) 2 24 Try.underlying24 hi hz0 hz1 hz2 rfl (by decide) _ L.length (vC L) rfl ((O4.out.alloc _).alloc _) _ 1 1 rfl (Nat.le_refl _) (by intro h; cases h) (vC [(⟨#[120]⟩ ++ byteT (97 + (L.length : Int)), 2)]) rfl (Rd.oneV_at _ _ _ _ _ (by simp)) (vC_one _) (by unfold maxLen; omega) (by omega) (by simp; omega) ?_); intro v5 w5 hown5 hgrow5 hwhere5)
        have hlow := Lib.hid O4.out.lt
        have G5 := Lib.hid (grown_far (grown_alloc (grown_alloc G4.out _) _) hgrow5 (fun j hj => (hlow.out j hj).1))
        have C5 := Lib.hid (((hC4.out.alloc _).alloc _).far hgrow5 (fun j hj => by have := (hlow.out j hj).1; omega))
        have hown6 := own_eq (n' := (L ++ [((⟨#[120]⟩ : ByteArray) ++ byteT (97 + (L.length : Int)), (2 : Int))]).length) hown5 (by simp) (vC_app _ _).symm
        have hlv := own_lenV hown6
        clear hgrow5 hwhere5 hown5
        go_roundw
        case rel => exact ⟨k4, _, by simp; omega, by simp, by omega, by simp; omega, hown6, hDL.out.snoc (by omega) ⟨hns.out, (by show (1 : Int) ≤ 2; decide), (by show (2 : Int) ≤ 9; decide)⟩, C5.out, G5.out⟩
        case measure =>
          rw [hlv]
          simp [lenV]
          omega
      · go_wp2_with fail
        go_ret
        exact ⟨L, _, k4, rfl, hDL.out, by omega, by omega, by omega, by omega, O4.out, hC4.out, G4.out⟩
  · go_wp2_with fail
    go_ret
    exact ⟨S, _, k2, rfl, hD.out, by omega, by omega, by omega, by omega, O2.out, hC3.out, G2.out⟩
end Go.Proofs.Ytjbhmofaackjpaa
