import Derived.Test.YtjbhmofaackjpaaRecI
import Derived.Test.YtjbhmofaackjpaaApp
import Derived.Laws.CopyOwn
import Derived.Test.YtjbhmofaackjpaaSchO
import Derived.Deep.Strs
import Derived.Test.YtjbhmofaackjpaaRecM
namespace Go.Proofs.Ytjbhmofaackjpaa
open Go.RowKit
set_option maxRecDepth 100000

/-- What a slice's room is. -/
def RCap (q : PR) : Prop := q.L.length ≤ q.c ∧ (q.x = none → q.c = 0)
theorem OwD.cap {w : World} {lo hi : Nat} {tr ti : TypeId} {v : Value} {Q : List PR} (h : OwD w lo hi tr ti v Q) : ∀ q ∈ Q, RCap q := fun q hq => by
  obtain ⟨x, c, e, h1, h2⟩ := (h.2.1.1 q hq).form
  unfold PR.v at e
  injection e with e1 _ e2
  exact ⟨by rw [e2]; exact h1, fun e => by rw [e2]; exact h2 (by rw [← e1]; exact e)⟩
/-- A record that a function gives: its values are its own. -/
def RcP (a h : Int) (L : List Int) (w : World) (e : Ending) (w' : World) : Prop :=
  ∃ x c, e = .returned (.agg #[.int .i64 a, .int .i64 h, .slice x L.length c]) ∧ OwR w' w.heap.size w'.heap.size 3 1 (.slice x L.length c) L.length (iC L) ∧ Below w.heap.size w w'

theorem own_heap {w : World} {base e g n : Nat} {xs : List Value} (h : w.ownsRow base e 1 (.slice (some ⟨g, 0, none⟩) n n) n xs) : w.heap[g]? = some (.cells xs.toArray e (0, 0)) := by
  rcases h.2 with ⟨h1, _⟩ | ⟨g', cap, cur, hv, _, hg, _, _, hs, ht⟩
  · cases h1
  · injection hv with h1 h2 h3
    injection h1 with h1
    injection h1 with h1
    subst h1 h3
    rw [hg]
    congr 2
    rw [← ht, List.take_of_length_le (by simp; omega)]
theorem own_of_heap {w : World} {base e g n : Nat} {xs : List Value} (h : w.heap[g]? = some (.cells xs.toArray e (0, 0))) (hb : base ≤ g) (hl : xs.length = n) (hm : n ≤ maxLen) : w.ownsRow base e 1 (.slice (some ⟨g, 0, none⟩) n n) n xs :=
  ⟨by rw [hl, Nat.mul_one], Or.inr ⟨g, n, xs.toArray, rfl, hb, h, Nat.le_refl _, hm, by simp [hl], by simp [← hl]⟩⟩
theorem splice_all {cur cs : List Value} (h : cs.length = cur.length) : splice cur 0 cs = cs := by
  unfold splice
  simp [h]

theorem rd_src {w : World} {x : Option Addr} {cs : List Value} (h : Rd w x cs) (hp : 0 < cs.length) : ∃ ad, x = some ad ∧ ∀ j v, cs[j]? = some v → w.cell? (ad.add j) = some v := by
  rcases h with rfl | ⟨b, off, e, _, hc⟩
  · simp at hp
  · exact ⟨_, e, fun j v hj => by rw [addr_add]; exact hc j v hj⟩

theorem own_spliced {w1 w2 : World} {e g n : Nat} {cur cs : List Value} (h : w1.ownsRow g e 1 (.slice (some ⟨g, 0, none⟩) n n) n cur) (hl : cs.length = n) (hm : n ≤ maxLen) (hg : w2.heap[g]? = some (.cells (splice cur 0 cs).toArray e (0, 0))) : w2.ownsRow g e 1 (.slice (some ⟨g, 0, none⟩) n n) n cs := by
  rw [splice_all (by have := h.1; omega)] at hg
  exact own_of_heap hg (Nat.le_refl _) hl hm
/-- A parameter's box and a result's cells, as they lie behind what left them alone. -/
theorem rec_two {w w2 : World} {a h : Int} {y : Option Addr} {n c : Nat} {t : TypeId} (hb : Below ((w.alloc (.cells #[.int .i64 a, .int .i64 h, .slice y n c] t)).alloc (.cells #[.int .i64 0, .int .i64 0, .slice none 0 0] t)).heap.size ((w.alloc (.cells #[.int .i64 a, .int .i64 h, .slice y n c] t)).alloc (.cells #[.int .i64 0, .int .i64 0, .slice none 0 0] t)) w2) :
    w2.cell? ⟨w.heap.size, 0, none⟩ = some (.int .i64 a) ∧ w2.cell? ⟨w.heap.size, 1, none⟩ = some (.int .i64 h) ∧ w2.cell? ⟨w.heap.size, 2, none⟩ = some (.slice y n c) ∧ w2.frozen? ⟨w.heap.size, 2, none⟩ = false ∧
      w2.cell? ⟨w.heap.size + 1, 0, none⟩ = some (.int .i64 0) ∧ w2.cell? ⟨w.heap.size + 1, 1, none⟩ = some (.int .i64 0) ∧ w2.cell? ⟨w.heap.size + 1, 2, none⟩ = some (.slice none 0 0) ∧
      w2.frozen? ⟨w.heap.size + 1, 0, none⟩ = false ∧ w2.frozen? ⟨w.heap.size + 1, 1, none⟩ = false ∧ w2.frozen? ⟨w.heap.size + 1, 2, none⟩ = false ∧ w.heap.size + 1 + 1 ≤ w2.heap.size := by
  have P2 : Wb w2 w.heap.size t #[.int .i64 a, .int .i64 h, .slice y n c] := ((Wb.new w _ _).kept ((Below.refl _ _).alloc (Nat.le_refl _) _)).kept hb
  have R2 : Wb w2 (w.heap.size + 1) t #[.int .i64 0, .int .i64 0, .slice none 0 0] := by
    have := (Wb.new (w.alloc (.cells #[.int .i64 a, .int .i64 h, .slice y n c] t)) t #[.int .i64 0, .int .i64 0, .slice none 0 0]).kept hb
    simpa using this
  have hs := hb.size
  simp at hs
  exact ⟨(P2.read 0).trans rfl, (P2.read 1).trans rfl, (P2.read 2).trans rfl, P2.free 2, (R2.read 0).trans rfl, (R2.read 1).trans rfl, (R2.read 2).trans rfl, R2.free 0, R2.free 1, R2.free 2, hs⟩

theorem keep_rec {w w2 : World} {a h : Int} {y : Option Addr} {n c : Nat} {t : TypeId} (hb : Below ((w.alloc (.cells #[.int .i64 a, .int .i64 h, .slice y n c] t)).alloc (.cells #[.int .i64 0, .int .i64 0, .slice none 0 0] t)).heap.size ((w.alloc (.cells #[.int .i64 a, .int .i64 h, .slice y n c] t)).alloc (.cells #[.int .i64 0, .int .i64 0, .slice none 0 0] t)) w2) :
    Below ((w.alloc (.cells #[.int .i64 a, .int .i64 h, .slice y n c] t)).alloc (.cells #[.int .i64 0, .int .i64 0, .slice none 0 0] t)).heap.size ((w.alloc (.cells #[.int .i64 a, .int .i64 h, .slice y n c] t)).alloc (.cells #[.int .i64 0, .int .i64 0, .slice none 0 0] t)) w2 ∧
    w2.cell? ⟨w.heap.size, 0, none⟩ = some (.int .i64 a) ∧ w2.cell? ⟨w.heap.size, 1, none⟩ = some (.int .i64 h) ∧ w2.cell? ⟨w.heap.size, 2, none⟩ = some (.slice y n c) := by
  obtain ⟨c0, c1, c2, _⟩ := rec_two hb
  exact ⟨hb, c0, c1, c2⟩

set_option maxHeartbeats 2000000 in
theorem rOwn_any (a h : Int) (y : Option Addr) (cap : Nat) (L : List Int) (w : World) (hm : L.length ≤ 1048576) (hc : L.length ≤ cap) (hnil : y = none → cap = 0) (hL : Rd w y (iC L)) :
    Calls Try.prog 65 #[.agg #[.int .i64 a, .int .i64 h, .slice y L.length cap]] w (RcP a h L w) := by
  have hLh := Lib.hid hL
  clear hL
  have hk0 := Lib.hid (RB.new w a h y L.length cap 40)
  go_enter Try.func65, Try.ntmps65
  go_wp2_with fail
  go_region_held3 (fun w' => Below w.heap.size w w' ∧ w'.cell? ⟨w.heap.size, 0, none⟩ = some (.int .i64 a) ∧ w'.cell? ⟨w.heap.size, 1, none⟩ = some (.int .i64 h) ∧ w'.cell? ⟨w.heap.size, 2, none⟩ = some (.slice y L.length cap)) (first | (refine ⟨(by repeat (first | exact Below.refl _ _ | assumption | refine Below.drew ?_ | refine below_drewN ?_ _ | refine Below.alloc' ?_ _ | (refine Below.setCell ?_ (by first | omega | (simp; done) | (simp; omega) | exact Below.size (by assumption) | exact Nat.le_trans (Below.size (by assumption)) (by simp)) _) | (refine Below.via' ?_ (by assumption)) | (refine Below.alloc ?_ (by first | omega | (simp; done) | (simp; omega) | exact Below.size (by assumption) | exact Nat.le_trans (Below.size (by assumption)) (by simp)) _) | (refine Below.via ?_ (by assumption) (by first | omega | (simp; done) | (simp; omega) | exact Below.size (by assumption) | exact Nat.le_trans (Below.size (by assumption)) (by simp))))), ?_, ?_, ?_⟩ <;> first | assumption | (go_keep; done))) (first | (go_at_call 48; refine (l1Own_any _ _ L _ hm hc hnil (hLh.out.below (by exact (by repeat (first | exact Below.refl _ _ | assumption | refine Below.drew ?_ | refine below_drewN ?_ _ | refine Below.alloc' ?_ _ | (refine Below.setCell ?_ (by first | omega | (simp; done) | (simp; omega) | exact Below.size (by assumption) | exact Nat.le_trans (Below.size (by assumption)) (by simp)) _) | (refine Below.via' ?_ (by assumption)) | (refine Below.alloc ?_ (by first | omega | (simp; done) | (simp; omega) | exact Below.size (by assumption) | exact Nat.le_trans (Below.size (by assumption)) (by simp)) _) | (refine Below.via ?_ (by assumption) (by first | omega | (simp; done) | (simp; omega) | exact Below.size (by assumption) | exact Nat.le_trans (Below.size (by assumption)) (by simp)))))))).mono ?_; rintro e w2 ⟨u, rfl, ho2, hb2⟩; obtain ⟨x2, n2, rfl, -, -⟩ := (OwR.of ho2).form; obtain ⟨c0, c1, c2, f2, d0, d1, d2, e0, e1, e2, hz2⟩ := rec_two (w := w) (a := a) (h := h) (y := y) (n := L.length) (c := cap) (t := 40) (w2 := w2) (by repeat (first | exact Below.refl _ _ | assumption | refine Below.drew ?_ | refine below_drewN ?_ _ | refine Below.alloc' ?_ _ | (refine Below.setCell ?_ (by first | omega | (simp; done) | (simp; omega) | exact Below.size (by assumption) | exact Nat.le_trans (Below.size (by assumption)) (by simp)) _) | (refine Below.via' ?_ (by assumption)) | (refine Below.alloc ?_ (by first | omega | (simp; done) | (simp; omega) | exact Below.size (by assumption) | exact Nat.le_trans (Below.size (by assumption)) (by simp)) _) | (refine Below.via ?_ (by assumption) (by first | omega | (simp; done) | (simp; omega) | exact Below.size (by assumption) | exact Nat.le_trans (Below.size (by assumption)) (by simp))))); (have hz3 := Nat.lt_of_succ_le hz2); (have hz4 := Nat.lt_of_succ_lt hz3); (have hb2h := Lib.hid (Below.via' (W := w) (by repeat (first | exact Below.refl _ _ | assumption | refine Below.drew ?_ | refine below_drewN ?_ _ | refine Below.alloc' ?_ _ | (refine Below.setCell ?_ (by first | omega | (simp; done) | (simp; omega) | exact Below.size (by assumption) | exact Nat.le_trans (Below.size (by assumption)) (by simp)) _) | (refine Below.via' ?_ (by assumption)) | (refine Below.alloc ?_ (by first | omega | (simp; done) | (simp; omega) | exact Below.size (by assumption) | exact Nat.le_trans (Below.size (by assumption)) (by simp)) _) | (refine Below.via ?_ (by assumption) (by first | omega | (simp; done) | (simp; omega) | exact Below.size (by assumption) | exact Nat.le_trans (Below.size (by assumption)) (by simp))))) hb2)); (have ho2h := Lib.hid ho2); clear ho2))
  rename_i hH
  clear hH
  go_wp2
  have hb2 := hb2h.out
  refine bodyPost_ret (v := .agg #[.int .i64 a, .int .i64 h, .slice x2 L.length n2]) (by simp [results, Try.results65, go_sem, *]) rfl ⟨x2, n2, rfl, OwR.of ?_, ?_⟩
  · refine own_more (base := w.heap.size + 1 + 1) ?_ (by omega)
    repeat (refine ownsRow_setCell_below ?_ (by simp; try omega) _)
    simpa using ho2h.out
  · exact (by repeat (first | exact Below.refl _ _ | assumption | refine Below.drew ?_ | refine below_drewN ?_ _ | refine Below.alloc' ?_ _ | (refine Below.setCell ?_ (by first | omega | (simp; done) | (simp; omega) | exact Below.size (by assumption) | exact Nat.le_trans (Below.size (by assumption)) (by simp)) _) | (refine Below.via' ?_ (by assumption)) | (refine Below.alloc ?_ (by first | omega | (simp; done) | (simp; omega) | exact Below.size (by assumption) | exact Nat.le_trans (Below.size (by assumption)) (by simp)) _) | (refine Below.via ?_ (by assumption) (by first | omega | (simp; done) | (simp; omega) | exact Below.size (by assumption) | exact Nat.le_trans (Below.size (by assumption)) (by simp)))))
end Go.Proofs.Ytjbhmofaackjpaa

namespace Go.Proofs.Ytjbhmofaackjpaa
open Go.ChangeShapes Go.WideShapes Go.ChangeAt Go.RowKit
open Go.Joins
set_option maxRecDepth 100000

instance : Inhabited PR := ⟨⟨0, 0, none, 0, []⟩⟩
/-- The record that the law has copied can be read as one. -/
theorem IIn.of_owR {w : World} {lo hi : Nat} {ti : TypeId} {x : Option Addr} {c : Nat} {L : List Int} (h : OwR w lo hi ti 1 (.slice x L.length c) L.length (iC L)) (hl : L.length ≤ 1048576) (hn : ∀ n ∈ L, IsI64 n) : IIn w x L := ⟨hl, hn, h.rd⟩
/-- The records that the law has copied can be read as data: their numbers are those that came in. -/
theorem DIn.of_owD {w W : World} {lo hi : Nat} {tr ti : TypeId} {x y : Option Addr} {c : Nat} {T Q : List PR} (h : OwD w lo hi tr ti (.slice x T.length c) T) (hT : pM T = pM Q) (hQ : DIn0 W y Q) (hl : Q.length ≤ 1048576) (ht : tot Q ≤ 1048576) : DIn w x T := by
  refine ⟨by rw [pM_length hT]; exact hl, fun t hm => ?_, h.1.rd⟩
  obtain ⟨i, hi, e⟩ := List.getElem_of_mem hm
  have hTi : T[i]? = some t := by rw [List.getElem?_eq_getElem hi, e]
  have hQl : i < Q.length := by rw [← pM_length hT]; exact hi
  have hQi : Q[i]? = some Q[i] := List.getElem?_eq_getElem hQl
  obtain ⟨e1, e2, e3⟩ := pM_get hT hQi hTi
  obtain ⟨_, g1, g2, g3, _⟩ := hQ.2.1 Q[i] (List.getElem_mem hQl)
  have := tot_mem (List.getElem_mem hQl)
  refine ⟨by rw [e1]; exact g1, by rw [e2]; exact g2, by rw [e3]; omega, by rw [e3]; exact g3, (h.2.1.1 t hm).rd⟩
theorem DIn.inn {w : World} {x : Option Addr} {Q : List PR} (h : DIn w x Q) : ∀ q ∈ Q, Rd w q.x (iC q.L) := fun q hq => (h.2.1 q hq).2.2.2.2
theorem DIn.len {w : World} {x : Option Addr} {Q : List PR} (h : DIn w x Q) : Q.length ≤ 9223372036854775807 ∧ ∀ q ∈ Q, q.L.length ≤ 9223372036854775807 := ⟨by have := h.1; omega, fun q hq => by have := (h.2.1 q hq).2.2.1; omega⟩
end Go.Proofs.Ytjbhmofaackjpaa

namespace Go.Proofs.Ytjbhmofaackjpaa
open Go.RowKit
set_option maxRecDepth 100000

/-- Data and a bool that the program's function gives: its own memory. -/
def DsI (b : Bool) (R : List RV) (w : World) (e : Ending) (w' : World) : Prop :=
  ∃ v T, e = .returned (.tuple #[v, .bool b]) ∧ pM T = R ∧ OwD w' w.heap.size w'.heap.size 40 3 v T ∧ Below w.heap.size w w'
/-- Data and a bool that the model's function gives. -/
def DsS (b : Bool) (R : List RV) (w : World) (e : Ending) (w' : World) : Prop :=
  ∃ x c T, e = .returned (.tuple #[.slice x (List.length (α := PR) T) c, .bool b]) ∧ pM T = R ∧ DRd w' w.heap.size w'.heap.size x T ∧ Below w.heap.size w w'
def rsL (b : Bool) (R : List RV) : List RV := if b then R else []
theorem OwD.nil (w : World) (lo hi : Nat) (tr ti : TypeId) : OwD w lo hi tr ti (.slice none 0 0) [] :=
  ⟨⟨World.ownsRow_nil _ _ _ _, fun k hk => (by cases hk)⟩, ⟨fun q hq => (by cases hq), by simp⟩, fun q hq => (by cases hq)⟩
theorem DRd.nil (w : World) (lo hi : Nat) : DRd w lo hi none [] := ⟨Or.inl rfl, fun b off e => by (cases e), fun q hq => by (cases hq)⟩
theorem DsI.no {b : Bool} {R : List RV} {w w' : World} (hb : b = false) (hw : Below w.heap.size w w') : DsI b (rsL b R) w (.returned (.tuple #[.slice none 0 0, .bool false])) w' := by
  subst hb
  exact ⟨_, [], rfl, rfl, OwD.nil _ _ _ _ _, hw⟩
theorem DsS.no {b : Bool} {R : List RV} {w w' : World} (hb : b = false) (hw : Below w.heap.size w w') : DsS b (rsL b R) w (.returned (.tuple #[.slice none 0 0, .bool false])) w' := by
  subst hb
  exact ⟨none, 0, [], rfl, rfl, DRd.nil _ _ _, hw⟩
theorem DsI.yes {b : Bool} {R : List RV} {w w' : World} {v : Value} {T : List PR} (hb : b = true) (hT : pM T = R) (ho : OwD w' w.heap.size w'.heap.size 40 3 v T) (hw : Below w.heap.size w w') : DsI b (rsL b R) w (.returned (.tuple #[v, .bool true])) w' := by
  subst hb
  exact ⟨v, T, rfl, hT, ho, hw⟩
theorem DsS.yes {b : Bool} {R : List RV} {w w' : World} {x : Option Addr} {c : Nat} {T : List PR} (hb : b = true) (hT : pM T = R) (ho : DRd w' w.heap.size w'.heap.size x T) (hw : Below w.heap.size w w') : DsS b (rsL b R) w (.returned (.tuple #[.slice x T.length c, .bool true])) w' := by
  subst hb
  exact ⟨x, c, T, rfl, hT, ho, hw⟩

/-- How many values all records have, without their places. -/
def totR (R : List RV) : Nat := (R.map fun q => q.2.2.length).sum
theorem tot_pM (Q : List PR) : tot Q = totR (pM Q) := by unfold tot totR pM; rw [List.map_map]; rfl
theorem tot_eq {T Q : List PR} (h : pM T = pM Q) : tot T = tot Q := by rw [tot_pM, tot_pM, h]
theorem totR_le {R : List RV} {n : Nat} (h : ∀ q ∈ R, q.2.2.length ≤ n) : totR R ≤ R.length * n := by
  unfold totR
  induction R with
  | nil => simp
  | cons q r ih =>
    have h1 := h q (by simp)
    have h2 := ih (fun p hp => h p (List.mem_cons_of_mem _ hp))
    rw [List.map_cons, List.sum_cons, List.length_cons, Nat.add_mul]
    omega
theorem rsL_small {b : Bool} {R : List RV} (h : b = true → R.length ≤ 40 ∧ ∀ q ∈ R, q.2.2.length ≤ 6) : (rsL b R).length ≤ 40 ∧ totR (rsL b R) ≤ 240 := by
  unfold rsL
  cases b with
  | false => simp [totR]
  | true =>
    obtain ⟨h1, h2⟩ := h rfl
    have h3 := totR_le h2
    simp only [if_true]
    exact ⟨h1, by omega⟩
theorem dok_small {S : List (ByteArray × Int)} {R : List RV} (h : idB S R = true) : R.length ≤ 40 ∧ ∀ q ∈ R, q.2.2.length ≤ 6 := by
  unfold idB at h
  rw [Bool.and_eq_true] at h
  refine ⟨dokB_len h.2, fun q hq => ?_⟩
  have := fit_len (rokB_get (dokB_mem h.2 hq)).2.2.2.2
  have := (schB_len h.1).2
  omega
theorem DRd.inn {w : World} {lo hi : Nat} {x : Option Addr} {Q : List PR} (h : DRd w lo hi x Q) : ∀ q ∈ Q, Rd w q.x (iC q.L) := fun q hq => (h.2.2 q hq).1
theorem OwD.rd {w : World} {lo hi : Nat} {tr ti : TypeId} {x : Option Addr} {c : Nat} {Q : List PR} (h : OwD w lo hi tr ti (.slice x Q.length c) Q) : Rd w x (pC Q) := h.1.rd
theorem OwD.inn {w : World} {lo hi : Nat} {tr ti : TypeId} {v : Value} {Q : List PR} (h : OwD w lo hi tr ti v Q) : ∀ q ∈ Q, Rd w q.x (iC q.L) := fun q hq => (h.2.1.1 q hq).rd
theorem tot_all {Q : List PR} (h : tot Q ≤ 1048576) : ∀ q ∈ Q, q.L.length ≤ 9223372036854775807 := fun q hq => by have := tot_mem hq; omega
end Go.Proofs.Ytjbhmofaackjpaa

namespace Go.Proofs.Ytjbhmofaackjpaa
open Go.RowKit
set_option maxRecDepth 100000

/-- What SortData gives. -/
def sdL (S : List (ByteArray × Int)) (R : List RV) : List RV := rsL (idB S R) (srt R)
theorem sd_small (S : List (ByteArray × Int)) (R : List RV) : (sdL S R).length ≤ 40 ∧ totR (sdL S R) ≤ 240 :=
  rsL_small fun h => ⟨by rw [srt_len]; exact (dok_small h).1, fun q hq => (dok_small h).2 q ((srt_perm R).mem_iff.1 hq)⟩
theorem idB_no1 {S : List (ByteArray × Int)} {R : List RV} (h : schB S = false) : idB S R = false := by unfold idB; rw [h]; rfl
theorem idB_no2 {S : List (ByteArray × Int)} {R : List RV} (h : dokB S R = false) : idB S R = false := by unfold idB; rw [h, Bool.and_false]
theorem idB_yes {S : List (ByteArray × Int)} {R : List RV} (h : schB S = true) (k : dokB S R = true) : idB S R = true := by unfold idB; rw [h, k]; rfl
/-- Records that the model lays: their row, and where their values are read. -/
def InsW (w : World) (lo : Nat) (v : Value) (T : List PR) : Prop :=
  (∀ k, v.ownBlock = some k → lo ≤ k ∧ k < w.heap.size) ∧ ∀ q ∈ T, Rd w q.x (iC q.L) ∧ q.L.length ≤ 1048576 ∧ ∀ b off, q.x = some ⟨b, off, none⟩ → lo ≤ b ∧ b < w.heap.size ∧ v.ownBlock ≠ some b
theorem InsW.below {w w1 : World} {lo : Nat} {v : Value} {T : List PR} (h : InsW w lo v T) (hb : Below w.heap.size w w1) : InsW w1 lo v T :=
  ⟨fun k hk => ⟨(h.1 k hk).1, Nat.lt_of_lt_of_le (h.1 k hk).2 hb.size⟩, fun q hq => ⟨(h.2 q hq).1.below hb, (h.2 q hq).2.1, fun b off e => ⟨((h.2 q hq).2.2 b off e).1, Nat.lt_of_lt_of_le ((h.2 q hq).2.2 b off e).2.1 hb.size, ((h.2 q hq).2.2 b off e).2.2⟩⟩⟩
/-- The row is written, or moved to a new block. -/
theorem InsW.row {w w1 : World} {lo : Nat} {v v1 : Value} {T : List PR} (h : InsW w lo v T) (hg : w.grownBy w1 v.ownBlock) (hv : v1.ownBlock = v.ownBlock ∨ v1.ownBlock = some w.heap.size) (hn : ∀ k, v1.ownBlock = some k → k < w1.heap.size) (hl : lo ≤ w.heap.size) : InsW w1 lo v1 T := by
  refine ⟨fun k hk => ⟨?_, hn k hk⟩, fun q hq => ?_⟩
  · rcases hv with e | e
    · exact (h.1 k (by rw [← e]; exact hk)).1
    · rw [e] at hk; injection hk with hk; omega
  · obtain ⟨h1, h2, h3⟩ := h.2 q hq
    refine ⟨h1.keep hg (fun b off e e2 => (h3 b off e).2.2 e2.symm), h2, fun b off e => ?_⟩
    obtain ⟨k1, k2, k3⟩ := h3 b off e
    refine ⟨k1, Nat.lt_of_lt_of_le k2 hg.size, ?_⟩
    rcases hv with e2 | e2
    · rw [e2]; exact k3
    · rw [e2]; intro e3; injection e3 with e3; omega
theorem InsW.snoc {w : World} {lo : Nat} {v : Value} {T : List PR} {q : PR} (h : InsW w lo v T) (h1 : Rd w q.x (iC q.L)) (h2 : q.L.length ≤ 1048576) (h3 : ∀ b off, q.x = some ⟨b, off, none⟩ → lo ≤ b ∧ b < w.heap.size ∧ v.ownBlock ≠ some b) : InsW w lo v (T ++ [q]) :=
  ⟨h.1, fun p hp => by
    rcases List.mem_append.1 hp with hp | hp
    · exact h.2 p hp
    · rw [List.mem_singleton] at hp; subst hp; exact ⟨h1, h2, h3⟩⟩
theorem InsW.sub {w : World} {lo : Nat} {v : Value} {T U : List PR} (h : InsW w lo v T) (hs : ∀ q ∈ U, q ∈ T) : InsW w lo v U := ⟨h.1, fun q hq => h.2 q (hs q hq)⟩
theorem InsW.drd {w : World} {lo : Nat} {x : Option Addr} {n c : Nat} {T : List PR} (h : InsW w lo (.slice x n c) T) (ho : w.ownsRow lo 40 3 (.slice x n c) n (pC T)) : DRd w lo w.heap.size x T :=
  ⟨Rd.of_own ho, fun b off e => h.1 b (by rw [e]; rfl), fun q hq => ⟨(h.2 q hq).1, fun b off e => ⟨((h.2 q hq).2.2 b off e).1, ((h.2 q hq).2.2 b off e).2.1⟩⟩⟩
theorem Rd.oneR (w : World) (t : TypeId) (a h : Int) (x : Option Addr) (n c : Nat) : Rd (w.alloc (.cells #[.int .i64 a, .int .i64 h, .slice x n c] t)) (some ⟨w.heap.size, 0, none⟩) [.int .i64 a, .int .i64 h, .slice x n c] := by
  refine Or.inr ⟨w.heap.size, 0, rfl, by simp, fun j u hj => ?_⟩
  rw [Nat.zero_add, World.cell?_alloc_at _ _ _ _ rfl, ← hj, ← Array.getElem?_toList]
theorem pC_single (q : PR) : pC [q] = [.int .i64 q.a, .int .i64 q.h, .slice q.x q.L.length q.c] := rfl
/-- Records that the model's function gives. -/
def SsP (R : List RV) (w : World) (e : Ending) (w' : World) : Prop :=
  ∃ x c T, e = .returned (.slice x (List.length (α := PR) T) c) ∧ pM T = R ∧ DRd w' w.heap.size w'.heap.size x T ∧ Below w.heap.size w w'
theorem RB.grown {w w' : World} {g : Nat} {a h : Int} {x : Option Addr} {n c : Nat} {r : Option Nat} (k : RB w g a h x n c) (hg : w.grownBy w' r) (hne : some g ≠ r) : RB w' g a h x n c := by
  have e := hg.block g k.2.2.2 hne
  exact ⟨(World.cell?_of_block (a := ⟨g, 0, none⟩) e).trans k.1, (World.cell?_of_block (a := ⟨g, 1, none⟩) e).trans k.2.1, (World.cell?_of_block (a := ⟨g, 2, none⟩) e).trans k.2.2.1, Nat.lt_of_lt_of_le k.2.2.2 hg.size⟩
theorem OwV.kept {w w1 : World} {lo hi g : Nat} {ti : TypeId} {Q : List PR} (h : OwV w lo hi ti Q) (hg : w.grownBy w1 (some g)) (hne : ∀ q ∈ Q, q.v.ownBlock ≠ some g) : OwV w1 lo hi ti Q := by
  refine ⟨fun q hq => ⟨(h.1 q hq).1.kept hg ?_, (h.1 q hq).2⟩, h.2⟩
  cases hb : q.v.ownBlock with
  | none => exact Or.inl rfl
  | some k => exact Or.inr fun e => hne q hq (by rw [hb, e])
end Go.Proofs.Ytjbhmofaackjpaa
