/-
  Reading back a schema: the model's walk.
-/
import Derived.Test.YtbglogaljjfnnaaDoorSchQ
import Derived.Deep.AppendLies
namespace Go.Proofs.YtbglogaljjfnnaaDoor
open Go.RowKit
set_option maxRecDepth 100000

/-- How long the pieces are. -/
def szS (L : List ByteArray) : Nat := (L.map ByteArray.size).sum
theorem szS_ge : ∀ (L : List ByteArray), (∀ t ∈ L, 1 ≤ t.size) → L.length ≤ szS L
  | [], _ => Nat.le_refl _
  | t :: L, h => by
    have h1 := h t (by simp)
    have h2 := szS_ge L (fun u hu => h u (List.mem_cons_of_mem _ hu))
    unfold szS at h2 ⊢
    simp only [List.map_cons, List.sum_cons, List.length_cons]
    omega
theorem spS_sum (s : ByteArray) (b : UInt8) : ∀ i, i ≤ s.size → szS (spS s b i).1 + (spS s b i).1.length = (spS s b i).2
  | 0, _ => rfl
  | i + 1, h => by
    have ih := spS_sum s b i (by omega)
    have hle := (spS_le s b i).1
    unfold spS
    split
    · unfold szS at ih ⊢
      simp only [List.map_append, List.map_cons, List.map_nil, List.sum_append, List.sum_cons, List.sum_nil, List.length_append, List.length_cons, List.length_nil, ByteArray.size_extract]
      omega
    · exact ih
theorem spL_short (s : ByteArray) (b : UInt8) (h : ∀ t ∈ spL s b, 1 ≤ t.size) : 2 * (spL s b).length ≤ s.size + 2 := by
  have h1 := spS_sum s b s.size (Nat.le_refl _)
  have h2 := szS_ge (spS s b s.size).1 (fun t ht => h t (by unfold spL; exact List.mem_append_left _ ht))
  have h3 := (spS_le s b s.size).1
  unfold spL
  simp only [List.length_append, List.length_cons, List.length_nil]
  omega
theorem sPc_pos {t : ByteArray} (h : sPc t ≠ none) : 1 ≤ t.size := by
  have h1 := spL_len t 58
  unfold sPc at h
  split at h
  · rename_i e
    rw [e] at h1
    simp at h1
    omega
  · exact absurd rfl h
theorem mapO_mem {f : ByteArray → Option (ByteArray × Int)} {L : List ByteArray} {S : List (ByteArray × Int)} (h : mapO f L = some S) : ∀ t ∈ L, f t ≠ none := by
  intro t ht e
  obtain ⟨i, hi, et⟩ := List.getElem_of_mem ht
  rw [mapO_bad f L i t (by rw [List.getElem?_eq_getElem hi, et]) e] at h
  cases h
theorem sLo_short {s : ByteArray} {S : List (ByteArray × Int)} (h : sLo s = some S) : 2 * S.length ≤ s.size + 2 := by
  have h1 := mapO_len _ _ _ h
  rw [h1]
  exact spL_short s 44 (fun t ht => sPc_pos (mapO_mem h t ht))
theorem rdZ_bd (s : ByteArray) : -1 ≤ rdZ s ∧ rdZ s < 1000000 := by
  unfold rdZ
  cases h : rdB (nmL s) with
  | false => simp
  | true =>
    unfold rdB at h
    simp only [Bool.and_eq_true, decide_eq_true_eq, List.all_eq_true] at h
    have := dgV_lt (nmL s).length (nmL s) rfl h.2
    have h6 : 10 ^ (nmL s).length ≤ 10 ^ 6 := Nat.pow_le_pow_right (by omega) h.1.1.2
    have h7 : 10 ^ 6 = 1000000 := rfl
    simp only [if_true]
    omega
/-- What a reading of the pieces has: names no longer than the text, numbers of Go. -/
def OkV (n : Nat) (S : List (ByteArray × Int)) : Prop := ∀ p ∈ S, p.1.size ≤ n ∧ IsI64 p.2
theorem OkV.snoc {n : Nat} {S : List (ByteArray × Int)} {p : ByteArray × Int} (h : OkV n S) (h1 : p.1.size ≤ n) (h2 : IsI64 p.2) : OkV n (S ++ [p]) := by
  intro q hq
  rcases List.mem_append.1 hq with hq | hq
  · exact h q hq
  · simp at hq
    subst hq
    exact ⟨h1, h2⟩
theorem vC_two (a : ByteArray) (n : Int) : vC [(a, n)] = [.string a, .int .i64 n] := rfl

theorem step_append_rd {P : Program} (w : World) {ops : Array Oper} {o : Oper} {a : Act} {K : Act → World → Prop} {Q : Exit → Act → World → Prop} {E : Prop} (hgd : o.guard = none) (s x : Operand) (t : TypeId)
    (ho : o.op = .call { callee := .builtin .append, args := #[s, x], argTypes := #[t, t] })
    (base : Nat) (e : TypeId) (i : TypeInfo) (z : Value) (size bytes : Nat) (ht : P.underlying t = some (.slice e)) (hi : P.info? e = some i) (hz : i.zero = some z)
    (hsize : i.size = size) (hby : i.bytes = bytes) (hzs : z.cells.size = size) (hsz : 0 < size)
    (v : Value) (n : Nat) (xs : List Value) (hs : a.eval s = v) (hown : w.ownsRow base e size v n xs)
    (A : Option Addr) (m c : Nat) (hx : a.eval x = .slice A m c) (hc : m ≤ c) (hnil : A = none → c = 0) (news : List Value) (hl : news.length = m * size) (hr : Rd w A news) (h1 : ∀ u ∈ news, u.oneCell' = true)
    (h63 : n + m ≤ maxLen) (hbytes : (n + m) * bytes ≤ 140737488355328) (hbase : base ≤ w.heap.size)
    (h : ∀ v' w', w'.ownsRow base e size v' (n + m) (xs ++ news) → w.grownBy w' v.ownBlock → (v'.ownBlock = v.ownBlock ∨ v'.ownBlock = some w.heap.size) → K (a.put o.dst v') w') :
    if Region.wanted o (yielded ops a.tmps) = true then Oper.wp P o a w K Q else E := by
  have hw : Region.wanted o (yielded ops a.tmps) = true := by simp [Region.wanted, hgd]
  rw [if_pos hw]
  obtain ⟨v', w', hrun, h2, h3, h4⟩ := run_append_rd (P := P) w base t o.type e i z size bytes ht hi hz hsize hby hzs hsz v n xs hown A m c hc hnil news hl hr h1 h63 hbytes hbase
  unfold Oper.wp execOp
  simp only [ho, resolve, invoke, builtin, Sem.run_bind, Sem.run_pure, Result.andThen_ok, List.map_toArray, List.map_cons, List.map_nil, hs, hx, hrun]
  exact h v' w' h2 h3 h4
theorem Rd.oneV (w : World) (t : TypeId) (s : ByteArray) (n : Int) : Rd (w.alloc (.cells #[.string s, .int .i64 n] t)) (some ⟨w.heap.size, 0, none⟩) (vC [(s, n)]) := by
  refine Or.inr ⟨w.heap.size, 0, rfl, by simp, fun j u hj => ?_⟩
  rw [vC_two] at hj
  rw [Nat.zero_add, World.cell?_alloc_at _ _ _ _ rfl, ← hj, ← Array.getElem?_toList]
theorem Rd.drewW {w : World} {x : Option Addr} {xs : List Value} (h : Rd w x xs) : Rd w.drew x xs := h

/-- What ParseSchema hands back. -/
def PsPost (s : ByteArray) (w : World) (e : Ending) (w' : World) : Prop :=
  Below w.heap.size w w' ∧ ((∃ S g cap, prO s = some S ∧ e = .returned (.tuple #[.slice (some ⟨g, 0, none⟩) S.length cap, .bool true]) ∧ w'.ownsRow w.heap.size 39 2 (.slice (some ⟨g, 0, none⟩) S.length cap) S.length (vC S)) ∨
    (prO s = none ∧ e = .returned (.tuple #[.slice none 0 0, .bool false])))

set_option maxHeartbeats 2000000 in
theorem sParse_any (s : ByteArray) (w : World) (hm : s.size ≤ 1048576) :
    Calls Tryd.prog 22 #[.string s] w (PsPost s w) := by
  obtain ⟨i0, hi, hz0, hz1, hz2⟩ := info_parts Tryd.infoVar
  have hPl := spL_len s 44
  go_enter Tryd.func22, Tryd.ntmps22
  go_wp2_with fail
  refine (l1Split_any s 44 _ hm).mono ?_
  rintro e w1 ⟨g, cap, rfl, hown1, hb1⟩
  have HP := Lib.hid (Rd.of_own hown1)
  have hs1 := hb1.size
  clear hown1
  go_wp2_with fail
  go_loopw [4, 11] (fun v c wr => ∃ (i : Nat) (S : List (ByteArray × Int)), i ≤ (spL s 44).length ∧ S.length = i ∧ Hid (mapO sPc ((spL s 44).take i) = some S) ∧ Hid (OkV s.size S) ∧ c = .int .i64 i ∧ wr.ownsRow w.heap.size 39 2 v S.length (vC S) ∧ (∀ k, v.ownBlock = some k → w.heap.size ≤ k ∧ w1.heap.size ≤ k) ∧ Below w.heap.size w wr ∧ Below w1.heap.size w1 wr) (fun _ c _ => (spL s 44).length - (intOf c).toNat)
  case atStart => exact ⟨0, [], by omega, rfl, rfl, (fun p hp => by cases hp), rfl, World.ownsRow_nil _ _ _ _, (by intro k hk; cases hk), hb1, Below.refl _ _⟩
  case round =>
    obtain ⟨i, S, hi', hSl, hmo, hok, rfl, hown, hlow, hb, hbx⟩ := hrel
    by_cases hlt : i < (spL s 44).length
    · obtain ⟨bl, off, t, hx, hbl, hPi, hc0⟩ := (HP.out.below hbx).text hlt
      injection hx with hx
      injection hx with hx1 hx2
      subst hx1 hx2
      rw [Nat.zero_add] at hc0
      have hts : t.size ≤ s.size := spl_sizes s 44 t (List.mem_of_getElem? hPi)
      replace hPi := Lib.hid hPi
      have hlt' : (i : Int) < ((spL s 44).length : Int) := by omega
      have hi0 : (0 : Int) ≤ (i : Int) := by omega
      go_wp2_with fail
      refine (l1Split_any t 58 _ (by omega)).mono ?_
      rintro e w2 ⟨g2, cap2, rfl, hown2, hb2⟩
      have hb2' : Below w.heap.size w w2 := (by repeat (first | exact Below.refl _ _ | assumption | refine Below.drew ?_ | refine below_drewN ?_ _ | refine Below.alloc' ?_ _ | (refine Below.setCell ?_ (by first | omega | (simp; done) | (simp; omega) | exact Below.size (by assumption) | exact Nat.le_trans (Below.size (by assumption)) (by simp)) _) | (refine Below.via' ?_ (by assumption)) | (refine Below.alloc ?_ (by first | omega | (simp; done) | (simp; omega) | exact Below.size (by assumption) | exact Nat.le_trans (Below.size (by assumption)) (by simp)) _) | (refine Below.via ?_ (by assumption) (by first | omega | (simp; done) | (simp; omega) | exact Below.size (by assumption) | exact Nat.le_trans (Below.size (by assumption)) (by simp)))))
      have hb2x : Below w1.heap.size w1 w2 := hbx.trans (hb2.mono hbx.size)
      have hs2 := hb2.size
      have hbs := hb.size
      have HQ := Lib.hid (Rd.of_own hown2)
      have hlow2 := (own_lt hown2).1
      have hlt2 := (own_lt hown2).2
      clear hown2
      by_cases h2 : (spL t 58).length = 2
      · obtain ⟨a, b, hab⟩ : ∃ a b, spL t 58 = [a, b] := by
          cases hL : spL t 58 with
          | nil => rw [hL] at h2; cases h2
          | cons a r =>
            cases r with
            | nil => rw [hL] at h2; cases h2
            | cons b r =>
              cases r with
              | nil => exact ⟨a, b, rfl⟩
              | cons c r => rw [hL] at h2; simp at h2
        have hsa : a.size ≤ t.size := spl_sizes t 58 a (by rw [hab]; simp)
        have hsb : b.size ≤ t.size := spl_sizes t 58 b (by rw [hab]; simp)
        obtain ⟨k0, k1⟩ : w2.cell? ⟨g2, 0, none⟩ = some (.string a) ∧ w2.cell? ⟨g2, 1, none⟩ = some (.string b) := by
          have hR := HQ.out
          rw [hab] at hR
          rcases hR with h | ⟨bb, off, e, _, hc⟩
          · cases h
          · injection e with e
            injection e with e1 e2
            subst e1 e2
            exact ⟨hc 0 _ rfl, hc 1 _ rfl⟩
        have hpc : Hid (sPc t = some (a, rdZ b)) := by unfold Hid sPc; rw [hab]
        have h22 : ((spL t 58).length : Int) = 2 := by omega
        have hnx : Hid (mapO sPc ((spL s 44).take (i + 1)) = some (S ++ [(a, rdZ b)])) := by
          unfold Hid
          rw [take_snoc hPi.out]
          exact mapO_snoc _ _ _ _ _ hmo.out hpc.out
        have hok2 : Hid (OkV s.size (S ++ [(a, rdZ b)])) := OkV.snoc hok.out (show a.size ≤ s.size by omega) (by have := rdZ_bd b; unfold IsI64; omega)
        have ho2 := own_below hown hb2
        replace hab := Lib.hid hab
        clear h2
        go_wp2_with fail
        go_region_law (first
          | (go_at_call 36; refine (l1Read_any _ _ (by omega)).mono ?_; rintro e w4 ⟨rfl, rfl⟩)
          | (go_simp; go_at_call 36; refine (l1Read_any _ _ (by omega)).mono ?_; rintro e w4 ⟨rfl, rfl⟩)
          | (refine step_append_rd _ rfl (.tmp 20) (.tmp 29) 26 rfl w.heap.size 39 i0 (.agg #[.string ⟨#[]⟩, .int .i64 0]) 2 24 Tryd.underlying26 hi hz0 hz1 hz2 rfl (by decide) _ S.length (vC S) rfl (own_below ho2 (by exact (by repeat (first | exact Below.refl _ _ | assumption | refine Below.drew ?_ | refine below_drewN ?_ _ | refine Below.alloc' ?_ _ | (refine Below.setCell ?_ (by first | omega | (simp; done) | (simp; omega) | exact Below.size (by assumption) | exact Nat.le_trans (Below.size (by assumption)) (by simp)) _) | (refine Below.via' ?_ (by assumption)) | (refine Below.alloc ?_ (by first | omega | (simp; done) | (simp; omega) | exact Below.size (by assumption) | exact Nat.le_trans (Below.size (by assumption)) (by simp)) _) | (refine Below.via ?_ (by assumption) (by first | omega | (simp; done) | (simp; omega) | exact Below.size (by assumption) | exact Nat.le_trans (Below.size (by assumption)) (by simp))))))) _ 1 1 rfl (Nat.le_refl _) (by intro h; cases h) (vC [(a, rdZ b)]) rfl (Rd.oneV _ _ _ _) (vC_one _) (by unfold maxLen; omega) (by omega) (by simp; omega) ?_; intro v3 w3 hown3 hgrow3 hwhere3)
          )
        all_goals
          have hh := append_below (w := w) (hb2'.drew) (fun k hk => (hlow k hk).1) hgrow3 hwhere3
          have hhx := append_below (w := w1) (hb2x.drew) (fun k hk => (hlow k hk).2) hgrow3 hwhere3
          go_wp2
          go_roundw
          case rel => exact ⟨i + 1, S ++ [(a, rdZ b)], by omega, by simp; omega, hnx, hok2, by go_num, own_eq hown3 (by simp) (vC_app _ _).symm, fun k hk => ⟨hh.2 k hk, hhx.2 k hk⟩, hh.1, hhx.1⟩
          case measure => simp [intOf]; omega
      · have hpc : Hid (prO s = none) := by
          unfold Hid
          rw [prO_model]
          have : sLo s = none := mapO_bad _ _ i t hPi.out (by
            unfold sPc
            split
            · rename_i e
              rw [e] at h2
              exact absurd rfl h2
            · rfl)
          rw [this]
        have h22 : ¬ ((spL t 58).length : Int) = 2 := by omega
        have h23 : (((spL t 58).length : Int) != 2) = true := by rw [bne_iff_ne]; exact h22
        clear h2 hown
        go_wp2_with fail
        go_ret2
        exact ⟨hb2', Or.inr ⟨hpc.out, rfl⟩⟩
    · have hij : i = (spL s 44).length := by omega
      subst hij
      have hS1 : 0 < S.length := by omega
      replace hSl := Lib.hid hSl
      obtain ⟨gv, cv, rfl⟩ := own_some2 hown hS1
      have hcap : S.length ≤ cv := by
        rcases hown.2 with ⟨_, h⟩ | ⟨g', c', cur, hv, _, _, h3, _⟩
        · omega
        · injection hv with _ _ hc; omega
      have hsl : Hid (sLo s = some S) := by
        have := hmo.out
        rw [List.take_length] at this
        exact this
      have hsh := sLo_short hsl.out
      have hin : Hid (SIn wr (some ⟨gv, 0, none⟩) cv S) := ⟨by omega, hcap, fun p hp => ⟨by have := (hok.out p hp).1; omega, (hok.out p hp).2⟩, Rd.of_own hown⟩
      have hbs := hb.size
      clear hmo HP
      cases hsc : schB S
      · have hp : Hid (prO s = none) := by
          unfold Hid
          rw [prO_model, hsl.out]
          simp only
          rw [if_neg (by rw [hsc]; simp)]
        replace hown := Lib.hid hown
        go_wp2_with (first | (go_at_call 15; refine (sGood_x _ _ _ _ hin.out).mono ?_; rintro e w2 ⟨rfl, hb2⟩; obtain ⟨hcl2, hfr2⟩ := bcell hb2; have hz2 := hb2.size; (try simp at hz2); (try (have hly2 := Nat.lt_of_succ_le hz2)); (try (have hlx2 := Nat.lt_of_succ_lt hly2)); (try (have hlw2 := Nat.lt_of_succ_lt hlx2)); (try (have hle2 := Nat.le_of_lt hly2)); (try (have hya2 : w.heap.size < w2.heap.size := by omega)); (try (have hyb2 : w.heap.size + 1 < w2.heap.size := by omega)); (try (have hyc2 : w.heap.size + 1 + 1 < w2.heap.size := by omega)); (try (have hyd2 : wa.heap.size < w2.heap.size := by omega))))
        go_ret2
        exact ⟨(by repeat (first | exact Below.refl _ _ | assumption | refine Below.drew ?_ | refine below_drewN ?_ _ | refine Below.alloc' ?_ _ | (refine Below.setCell ?_ (by first | omega | (simp; done) | (simp; omega) | exact Below.size (by assumption) | exact Nat.le_trans (Below.size (by assumption)) (by simp)) _) | (refine Below.via' ?_ (by assumption)) | (refine Below.alloc ?_ (by first | omega | (simp; done) | (simp; omega) | exact Below.size (by assumption) | exact Nat.le_trans (Below.size (by assumption)) (by simp)) _) | (refine Below.via ?_ (by assumption) (by first | omega | (simp; done) | (simp; omega) | exact Below.size (by assumption) | exact Nat.le_trans (Below.size (by assumption)) (by simp))))), Or.inr ⟨hp.out, rfl⟩⟩
      · cases he : ((stT S).toList == s.toList)
        · have hp : Hid (prO s = none) := by
            unfold Hid
            rw [prO_model, hsl.out]
            simp only
            rw [if_neg]
            rintro ⟨_, h⟩
            rw [str_eq, decide_eq_false_iff_not] at he
            exact he h
          have he2 : ((stT S).toList != s.toList) = true := by rw [bne, he]; rfl
          replace hown := Lib.hid hown
          go_wp2_with (first | (go_at_call 15; refine (sGood_x _ _ _ _ hin.out).mono ?_; rintro e w2 ⟨rfl, hb2⟩; obtain ⟨hcl2, hfr2⟩ := bcell hb2; have hz2 := hb2.size; (try simp at hz2); (try (have hly2 := Nat.lt_of_succ_le hz2)); (try (have hlx2 := Nat.lt_of_succ_lt hly2)); (try (have hlw2 := Nat.lt_of_succ_lt hlx2)); (try (have hle2 := Nat.le_of_lt hly2)); (try (have hya2 : w.heap.size < w2.heap.size := by omega)); (try (have hyb2 : w.heap.size + 1 < w2.heap.size := by omega)); (try (have hyc2 : w.heap.size + 1 + 1 < w2.heap.size := by omega)); (try (have hyd2 : wa.heap.size < w2.heap.size := by omega))) | (go_at_call 16; refine (sText_any _ _ _ _ hsc (hin.out.rd.below (by assumption))).mono ?_; rintro e w3 ⟨rfl, hb3⟩; obtain ⟨hcl3, hfr3⟩ := bcell hb3; have hz3 := hb3.size; (try simp at hz3); (try (have hly3 := Nat.lt_of_succ_le hz3)); (try (have hlx3 := Nat.lt_of_succ_lt hly3)); (try (have hlw3 := Nat.lt_of_succ_lt hlx3)); (try (have hle3 := Nat.le_of_lt hly3)); (try (have hya3 : w.heap.size < w3.heap.size := by omega)); (try (have hyb3 : w.heap.size + 1 < w3.heap.size := by omega)); (try (have hyc3 : w.heap.size + 1 + 1 < w3.heap.size := by omega)); (try (have hyd3 : wa.heap.size < w3.heap.size := by omega))))
          go_ret2
          exact ⟨(by repeat (first | exact Below.refl _ _ | assumption | refine Below.drew ?_ | refine below_drewN ?_ _ | refine Below.alloc' ?_ _ | (refine Below.setCell ?_ (by first | omega | (simp; done) | (simp; omega) | exact Below.size (by assumption) | exact Nat.le_trans (Below.size (by assumption)) (by simp)) _) | (refine Below.via' ?_ (by assumption)) | (refine Below.alloc ?_ (by first | omega | (simp; done) | (simp; omega) | exact Below.size (by assumption) | exact Nat.le_trans (Below.size (by assumption)) (by simp)) _) | (refine Below.via ?_ (by assumption) (by first | omega | (simp; done) | (simp; omega) | exact Below.size (by assumption) | exact Nat.le_trans (Below.size (by assumption)) (by simp))))), Or.inr ⟨hp.out, rfl⟩⟩
        · have hp : Hid (prO s = some S) := by
            unfold Hid
            rw [prO_model, hsl.out]
            simp only
            rw [if_pos]
            rw [str_eq, decide_eq_true_eq] at he
            exact ⟨hsc, he⟩
          have he2 : ((stT S).toList != s.toList) = false := by rw [bne, he]; rfl
          replace hown := Lib.hid hown
          go_wp2_with (first | (go_at_call 15; refine (sGood_x _ _ _ _ hin.out).mono ?_; rintro e w2 ⟨rfl, hb2⟩; obtain ⟨hcl2, hfr2⟩ := bcell hb2; have hz2 := hb2.size; (try simp at hz2); (try (have hly2 := Nat.lt_of_succ_le hz2)); (try (have hlx2 := Nat.lt_of_succ_lt hly2)); (try (have hlw2 := Nat.lt_of_succ_lt hlx2)); (try (have hle2 := Nat.le_of_lt hly2)); (try (have hya2 : w.heap.size < w2.heap.size := by omega)); (try (have hyb2 : w.heap.size + 1 < w2.heap.size := by omega)); (try (have hyc2 : w.heap.size + 1 + 1 < w2.heap.size := by omega)); (try (have hyd2 : wa.heap.size < w2.heap.size := by omega))) | (go_at_call 16; refine (sText_any _ _ _ _ hsc (hin.out.rd.below (by assumption))).mono ?_; rintro e w3 ⟨rfl, hb3⟩; obtain ⟨hcl3, hfr3⟩ := bcell hb3; have hz3 := hb3.size; (try simp at hz3); (try (have hly3 := Nat.lt_of_succ_le hz3)); (try (have hlx3 := Nat.lt_of_succ_lt hly3)); (try (have hlw3 := Nat.lt_of_succ_lt hlx3)); (try (have hle3 := Nat.le_of_lt hly3)); (try (have hya3 : w.heap.size < w3.heap.size := by omega)); (try (have hyb3 : w.heap.size + 1 < w3.heap.size := by omega)); (try (have hyc3 : w.heap.size + 1 + 1 < w3.heap.size := by omega)); (try (have hyd3 : wa.heap.size < w3.heap.size := by omega))))
          go_ret2
          have hbz : Below wr.heap.size wr w3 := (by repeat (first | exact Below.refl _ _ | assumption | refine Below.drew ?_ | refine below_drewN ?_ _ | refine Below.alloc' ?_ _ | (refine Below.setCell ?_ (by first | omega | (simp; done) | (simp; omega) | exact Below.size (by assumption) | exact Nat.le_trans (Below.size (by assumption)) (by simp)) _) | (refine Below.via' ?_ (by assumption)) | (refine Below.alloc ?_ (by first | omega | (simp; done) | (simp; omega) | exact Below.size (by assumption) | exact Nat.le_trans (Below.size (by assumption)) (by simp)) _) | (refine Below.via ?_ (by assumption) (by first | omega | (simp; done) | (simp; omega) | exact Below.size (by assumption) | exact Nat.le_trans (Below.size (by assumption)) (by simp)))))
          exact ⟨(by repeat (first | exact Below.refl _ _ | assumption | refine Below.drew ?_ | refine below_drewN ?_ _ | refine Below.alloc' ?_ _ | (refine Below.setCell ?_ (by first | omega | (simp; done) | (simp; omega) | exact Below.size (by assumption) | exact Nat.le_trans (Below.size (by assumption)) (by simp)) _) | (refine Below.via' ?_ (by assumption)) | (refine Below.alloc ?_ (by first | omega | (simp; done) | (simp; omega) | exact Below.size (by assumption) | exact Nat.le_trans (Below.size (by assumption)) (by simp)) _) | (refine Below.via ?_ (by assumption) (by first | omega | (simp; done) | (simp; omega) | exact Below.size (by assumption) | exact Nat.le_trans (Below.size (by assumption)) (by simp))))), Or.inl ⟨S, gv, cv, hp.out, rfl, own_below hown.out hbz⟩⟩
end Go.Proofs.YtbglogaljjfnnaaDoor
