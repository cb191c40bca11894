import Derived.Test.YtnmpigedhpdenaaSchN
import Derived.Test.YtnmpigedhpdenaaApp
import Derived.Deep.AppendLies
import Derived.Test.YtnmpigedhpdenaaCbV
import Derived.Test.YtnmpigedhpdenaaCbY
import Derived.Test.YtnmpigedhpdenaaCbZm
import Derived.Deep.RegionHeld
import Derived.Deep.RegionLaw
import Derived.Deep.DeepCutAuto
import Derived.Test.YtnmpigedhpdenaaCmM
import Derived.ChangeKeysEq
import Derived.Laws.StructEq
namespace Go.Proofs.Ytnmpigedhpdenaa
open Go.RowKit
set_option maxRecDepth 100000

theorem vC_two (a : ByteArray) (n : Int) : vC [(a, n)] = [.string a, .int .i64 n] := rfl

theorem step_append_rd {P : Program} (w : World) {ops : Array Oper} {o : Oper} {a : Act} {K : Act → World → Prop} {Q : Exit → Act → World → Prop} {E : Prop} (hgd : o.guard = none) (s x : Operand) (t : TypeId)
    (ho : o.op = .call { callee := .builtin .append, args := #[s, x], argTypes := #[t, t] })
    (base : Nat) (e : TypeId) (i : TypeInfo) (z : Value) (size bytes : Nat) (ht : P.underlying t = some (.slice e)) (hi : P.info? e = some i) (hz : i.zero = some z)
    (hsize : i.size = size) (hby : i.bytes = bytes) (hzs : z.cells.size = size) (hsz : 0 < size)
    (v : Value) (n : Nat) (xs : List Value) (hs : a.eval s = v) (hown : w.ownsRow base e size v n xs)
    (A : Option Addr) (m c : Nat) (hx : a.eval x = .slice A m c) (hc : m ≤ c) (hnil : A = none → c = 0) (news : List Value) (hl : news.length = m * size) (hr : Rd w A news) (h1 : ∀ u ∈ news, u.oneCell' = true)
    (h63 : n + m ≤ maxLen) (hbytes : (n + m) * bytes ≤ 140737488355328) (hbase : base ≤ w.heap.size)
    (h : ∀ v' w', w'.ownsRow base e size v' (n + m) (xs ++ news) → w.grownBy w' v.ownBlock → (v'.ownBlock = v.ownBlock ∨ v'.ownBlock = some w.heap.size) → K (a.put o.dst v') w') :
    if Region.wanted o (yielded ops a.tmps) = true then Oper.wp P o a w K Q else E := by
  have hw : Region.wanted o (yielded ops a.tmps) = true := by simp [Region.wanted, hgd]
  rw [if_pos hw]
  obtain ⟨v', w', hrun, h2, h3, h4⟩ := run_append_rd (P := P) w base t o.type e i z size bytes ht hi hz hsize hby hzs hsz v n xs hown A m c hc hnil news hl hr h1 h63 hbytes hbase
  unfold Oper.wp execOp
  simp only [ho, resolve, invoke, builtin, Sem.run_bind, Sem.run_pure, Result.andThen_ok, List.map_toArray, List.map_cons, List.map_nil, hs, hx, hrun]
  exact h v' w' h2 h3 h4
theorem Rd.oneV (w : World) (t : TypeId) (s : ByteArray) (n : Int) : Rd (w.alloc (.cells #[.string s, .int .i64 n] t)) (some ⟨w.heap.size, 0, none⟩) (vC [(s, n)]) := by
  refine Or.inr ⟨w.heap.size, 0, rfl, by simp, fun j u hj => ?_⟩
  rw [vC_two] at hj
  rw [Nat.zero_add, World.cell?_alloc_at _ _ _ _ rfl, ← hj, ← Array.getElem?_toList]
theorem Rd.drewW {w : World} {x : Option Addr} {xs : List Value} (h : Rd w x xs) : Rd w.drew x xs := h

end Go.Proofs.Ytnmpigedhpdenaa

namespace Go.Proofs.Ytnmpigedhpdenaa
open Go.RowKit
set_option maxRecDepth 100000

/-- A cube that is handed on, or none. -/
def OnPost (b : Bool) (x : Option Addr) (n c : Nat) (y : Option Addr) (k d : Nat) (w : World) (e : Ending) (w' : World) : Prop :=
  ((b = true ∧ e = .returned (.tuple #[.agg #[.slice x n c, .slice y k d], .bool true])) ∨ (b = false ∧ e = .returned (.tuple #[.agg #[.slice none 0 0, .slice none 0 0], .bool false]))) ∧ Below w.heap.size w w'
theorem within_x (y : Option Addr) (d : Nat) (C : List Int) (w : World) (hC : IIn w y C) :
    Calls Try.prog 96 #[.slice y C.length d, .int .i64 1000000] w fun e w' => e = .returned (.bool (inR C (-1000000) 1000000)) ∧ Below w.heap.size w w' :=
  (areWithin_any _ _ C 1000000 _ (by omega) (by omega) hC).mono fun _ _ h => ⟨h.1, by rw [← h.2]; exact Below.refl _ _⟩
set_option maxHeartbeats 2000000 in
theorem wl_any (x y : Option Addr) (c d : Nat) (Z C : List Int) (w : World) (h : CIn w x y Z C) :
    Calls Try.prog 71 #[.agg #[.slice x Z.length c, .slice y C.length d]] w (OnPost (inR C (-1000000) 1000000) x Z.length c y C.length d w) := by
  have hh := Lib.hid h
  clear h
  obtain ⟨w0, hw0⟩ : ∃ w0, w0 = (w.alloc (.cells #[.slice x Z.length c, .slice y C.length d] 27)).alloc (.cells #[.slice none 0 0, .slice none 0 0] 27) := ⟨_, rfl⟩
  have B0 : Below w.heap.size w w0 := by rw [hw0]; exact (by repeat (first | exact Below.refl _ _ | assumption | refine Below.drew ?_ | refine below_drewN ?_ _ | refine Below.alloc' ?_ _ | (refine Below.setCell ?_ (by first | omega | (simp; done) | (simp; omega) | exact Below.size (by assumption) | exact Nat.le_trans (Below.size (by assumption)) (by simp)) _) | (refine Below.via' ?_ (by assumption)) | (refine Below.alloc ?_ (by first | omega | (simp; done) | (simp; omega) | exact Below.size (by assumption) | exact Nat.le_trans (Below.size (by assumption)) (by simp)) _) | (refine Below.via ?_ (by assumption) (by first | omega | (simp; done) | (simp; omega) | exact Below.size (by assumption) | exact Nat.le_trans (Below.size (by assumption)) (by simp)))))
  have qA : CQ w0 w.heap.size x Z.length c y C.length d := by rw [hw0]; exact (CQ.new w x Z.length c y C.length d 27).below (by repeat (first | exact Below.refl _ _ | assumption | refine Below.drew ?_ | refine below_drewN ?_ _ | refine Below.alloc' ?_ _ | (refine Below.setCell ?_ (by first | omega | (simp; done) | (simp; omega) | exact Below.size (by assumption) | exact Nat.le_trans (Below.size (by assumption)) (by simp)) _) | (refine Below.via' ?_ (by assumption)) | (refine Below.alloc ?_ (by first | omega | (simp; done) | (simp; omega) | exact Below.size (by assumption) | exact Nat.le_trans (Below.size (by assumption)) (by simp)) _) | (refine Below.via ?_ (by assumption) (by first | omega | (simp; done) | (simp; omega) | exact Below.size (by assumption) | exact Nat.le_trans (Below.size (by assumption)) (by simp)))))
  have z0 : Wb w0 (w.heap.size + 1) 27 #[.slice none 0 0, .slice none 0 0] := by
    have h0 := Wb.new (w.alloc (.cells #[.slice x Z.length c, .slice y C.length d] 27)) 27 #[.slice none 0 0, .slice none 0 0]
    rw [World.size_alloc, ← hw0] at h0
    exact h0
  replace qA := Lib.hid qA
  replace z0 := Lib.hid z0
  go_enter Try.func71, Try.ntmps71
  go_wp2_with fail
  rw [← hw0]
  replace hw0 := Lib.hid hw0
  refine (within_x _ _ C _ (hh.out.2.below B0)).mono ?_
  rintro e w1 ⟨rfl, hb1⟩
  have B1 : Below w.heap.size w w1 := Below.via' B0 hb1
  have q1 := Lib.hid (qA.out.below hb1)
  have z1 := Lib.hid (z0.out.kept hb1)
  obtain ⟨qa, qb, qc⟩ := q1.out
  have ya : w1.cell? ⟨w.heap.size + 1, 0, none⟩ = some (.slice none 0 0) := (z1.out.read 0).trans rfl
  have yb : w1.cell? ⟨w.heap.size + 1, 1, none⟩ = some (.slice none 0 0) := (z1.out.read 1).trans rfl
  have ye := z1.out.free 0
  have yf := z1.out.free 1
  have yin := z1.out.inside
  clear hb1
  cases hb : inR C (-1000000) 1000000
  · have hbh := Lib.hid hb
    clear hb
    go_wp2
    refine bodyPost_ret (v := .tuple #[.agg #[.slice none 0 0, .slice none 0 0], .bool false]) (by simp [results, Try.results71, go_sem, *]) rfl ⟨Or.inr ⟨hbh.out, rfl⟩, ?_⟩
    repeat (refine Below.setCell ?_ (by simp; try omega) _)
    exact B1
  · have hbh := Lib.hid hb
    clear hb
    go_wp2
    refine bodyPost_ret (v := .tuple #[.agg #[.slice x Z.length c, .slice y C.length d], .bool true]) (by simp [results, Try.results71, go_sem, *]) rfl ⟨Or.inl ⟨hbh.out, rfl⟩, ?_⟩
    repeat (refine Below.setCell ?_ (by simp; try omega) _)
    exact B1
set_option maxHeartbeats 2000000 in
theorem cbIf_any (x y : Option Addr) (c d : Nat) (Z C : List Int) (w : World) (h : CIn w x y Z C) :
    Calls Try.prog 63 #[.agg #[.slice x Z.length c, .slice y C.length d]] w (OnPost (cgB Z C) x Z.length c y C.length d w) := by
  have hh := Lib.hid h
  clear h
  obtain ⟨w0, hw0⟩ : ∃ w0, w0 = (w.alloc (.cells #[.slice x Z.length c, .slice y C.length d] 27)).alloc (.cells #[.slice none 0 0, .slice none 0 0] 27) := ⟨_, rfl⟩
  have B0 : Below w.heap.size w w0 := by rw [hw0]; exact (by repeat (first | exact Below.refl _ _ | assumption | refine Below.drew ?_ | refine below_drewN ?_ _ | refine Below.alloc' ?_ _ | (refine Below.setCell ?_ (by first | omega | (simp; done) | (simp; omega) | exact Below.size (by assumption) | exact Nat.le_trans (Below.size (by assumption)) (by simp)) _) | (refine Below.via' ?_ (by assumption)) | (refine Below.alloc ?_ (by first | omega | (simp; done) | (simp; omega) | exact Below.size (by assumption) | exact Nat.le_trans (Below.size (by assumption)) (by simp)) _) | (refine Below.via ?_ (by assumption) (by first | omega | (simp; done) | (simp; omega) | exact Below.size (by assumption) | exact Nat.le_trans (Below.size (by assumption)) (by simp)))))
  have qA : CQ w0 w.heap.size x Z.length c y C.length d := by rw [hw0]; exact (CQ.new w x Z.length c y C.length d 27).below (by repeat (first | exact Below.refl _ _ | assumption | refine Below.drew ?_ | refine below_drewN ?_ _ | refine Below.alloc' ?_ _ | (refine Below.setCell ?_ (by first | omega | (simp; done) | (simp; omega) | exact Below.size (by assumption) | exact Nat.le_trans (Below.size (by assumption)) (by simp)) _) | (refine Below.via' ?_ (by assumption)) | (refine Below.alloc ?_ (by first | omega | (simp; done) | (simp; omega) | exact Below.size (by assumption) | exact Nat.le_trans (Below.size (by assumption)) (by simp)) _) | (refine Below.via ?_ (by assumption) (by first | omega | (simp; done) | (simp; omega) | exact Below.size (by assumption) | exact Nat.le_trans (Below.size (by assumption)) (by simp)))))
  have z0 : Wb w0 (w.heap.size + 1) 27 #[.slice none 0 0, .slice none 0 0] := by
    have h0 := Wb.new (w.alloc (.cells #[.slice x Z.length c, .slice y C.length d] 27)) 27 #[.slice none 0 0, .slice none 0 0]
    rw [World.size_alloc, ← hw0] at h0
    exact h0
  replace qA := Lib.hid qA
  replace z0 := Lib.hid z0
  go_enter Try.func63, Try.ntmps63
  go_wp2_with fail
  rw [← hw0]
  replace hw0 := Lib.hid hw0
  refine (cbGood_any _ _ _ _ Z C _ (hh.out.below B0)).mono ?_
  rintro e w1 ⟨rfl, hb1⟩
  have B1 : Below w.heap.size w w1 := Below.via' B0 hb1
  have q1 := Lib.hid (qA.out.below hb1)
  have z1 := Lib.hid (z0.out.kept hb1)
  obtain ⟨qa, qb, qc⟩ := q1.out
  have ya : w1.cell? ⟨w.heap.size + 1, 0, none⟩ = some (.slice none 0 0) := (z1.out.read 0).trans rfl
  have yb : w1.cell? ⟨w.heap.size + 1, 1, none⟩ = some (.slice none 0 0) := (z1.out.read 1).trans rfl
  have ye := z1.out.free 0
  have yf := z1.out.free 1
  have yin := z1.out.inside
  clear hb1
  cases hb : cgB Z C
  · have hbh := Lib.hid hb
    clear hb
    go_wp2
    refine bodyPost_ret (v := .tuple #[.agg #[.slice none 0 0, .slice none 0 0], .bool false]) (by simp [results, Try.results63, go_sem, *]) rfl ⟨Or.inr ⟨hbh.out, rfl⟩, ?_⟩
    repeat (refine Below.setCell ?_ (by simp; try omega) _)
    exact B1
  · have hbh := Lib.hid hb
    clear hb
    go_wp2
    refine bodyPost_ret (v := .tuple #[.agg #[.slice x Z.length c, .slice y C.length d], .bool true]) (by simp [results, Try.results63, go_sem, *]) rfl ⟨Or.inl ⟨hbh.out, rfl⟩, ?_⟩
    repeat (refine Below.setCell ?_ (by simp; try omega) _)
    exact B1
end Go.Proofs.Ytnmpigedhpdenaa

namespace Go.Proofs.Ytnmpigedhpdenaa
open Go.RowKit
set_option maxRecDepth 100000

/-- A cube's box and its two rows, all the call's own. -/
def CuL (s : Value) (R : List Int × List Int) (lo : Nat) (wx : World) : Prop :=
  ∃ g x c z d, s = .pointer (some ⟨g, 0, none⟩) ∧ Wb wx g 27 #[.slice x R.1.length c, .slice z R.2.length d] ∧ lo ≤ g ∧ wx.ownsRow lo 3 1 (.slice x R.1.length c) R.1.length (iC R.1) ∧ wx.ownsRow lo 3 1 (.slice z R.2.length d) R.2.length (iC R.2) ∧
    (∀ k, (Value.slice x R.1.length c).ownBlock = some k → (Value.slice z R.2.length d).ownBlock ≠ some k)
theorem OwR.asideU {w : World} {lo hi size n : Nat} {e : TypeId} {u : Value} {xs : List Value} (h : OwR w lo hi e size u n xs) (p : Addr) (v : Value) (hp : p.block < lo ∨ hi ≤ p.block) : OwR (w.setCell p v) lo hi e size u n xs :=
  h.keep (grown_setU w p v) (fun k hk => by obtain rfl := Option.some.inj hk; exact hp)
theorem cuL_mk {W : World} {lo g a b a2 b2 : Nat} {x z : Option Addr} {c d : Nat} {Y A : List Int} (bx : Wb W g 27 #[.slice x Y.length c, .slice z A.length d]) (hg : lo ≤ g) (hS : OwR W a b 3 1 (.slice x Y.length c) Y.length (iC Y)) (hC : OwR W a2 b2 3 1 (.slice z A.length d) A.length (iC A)) (h1 : lo ≤ a) (h2 : lo ≤ a2) (h3 : b ≤ a2 ∨ b2 ≤ a) :
    CuL (.pointer (some ⟨g, 0, none⟩)) (Y, A) lo W :=
  ⟨g, x, c, z, d, rfl, bx, hg, own_more hS.1 h1, own_more hC.1 h2, fun k hk e => by have := hS.2 k hk; have := hC.2 k e; omega⟩
theorem own_base {w : World} {base e size n : Nat} {v : Value} {xs : List Value} {g : Nat} (h : w.ownsRow base e size v n xs) (hg : v.ownBlock = some g) : w.ownsRow g e size v n xs := by
  refine ⟨h.1, ?_⟩
  rcases h.2 with ⟨rfl, _⟩ | ⟨g', cap, cur, rfl, hb, r⟩
  · cases hg
  · obtain rfl : g' = g := by simpa [Value.ownBlock] using hg
    exact .inr ⟨g', cap, cur, rfl, Nat.le_refl _, r⟩
theorem own_one {w : World} {lo e size n : Nat} {v : Value} {xs : List Value} (h : w.ownsRow lo e size v n xs) : ∃ a b, lo ≤ a ∧ b ≤ max lo w.heap.size ∧ a ≤ b ∧ OwR w a b e size v n xs ∧ ((v.ownBlock = none ∧ a = lo ∧ b = lo) ∨ (v.ownBlock = some a ∧ b = a + 1)) := by
  cases hv : v.ownBlock with
  | none => exact ⟨lo, lo, Nat.le_refl _, Nat.le_max_left _ _, Nat.le_refl _, ⟨h, fun k hk => by rw [hv] at hk; cases hk⟩, .inl ⟨rfl, rfl, rfl⟩⟩
  | some g =>
    have h1 := h.lt g hv
    exact ⟨g, g + 1, h1.1, by omega, by omega, ⟨own_base h hv, fun k hk => by rw [hv] at hk; cases hk; omega⟩, .inr ⟨rfl, rfl⟩⟩
/-- Rows in different blocks lie apart. -/
theorem owU_of {w : World} {lo : Nat} {u v : Value} {F W : List Int} (hl : lo ≤ w.heap.size) (h : w.ownsRow lo 3 1 u F.length (iC F)) (k : w.ownsRow lo 3 1 v W.length (iC W)) (hne : ∀ q, u.ownBlock = some q → v.ownBlock ≠ some q) : OwU w lo w.heap.size u v F W := by
  obtain ⟨a, b, h1, h2, h3, h4, h5⟩ := own_one h
  obtain ⟨a2, b2, k1, k2, k3, k4, k5⟩ := own_one k
  rw [Nat.max_eq_right hl] at h2 k2
  refine ⟨a, b, a2, b2, h1, h2, k1, k2, ?_, h4, k4⟩
  rcases h5 with ⟨_, rfl, rfl⟩ | ⟨e1, rfl⟩
  · exact .inl k1
  · rcases k5 with ⟨_, rfl, rfl⟩ | ⟨e2, rfl⟩
    · exact .inr h1
    · have := hne a e1
      rw [e2] at this
      have : a2 ≠ a := fun e => this (by rw [e])
      omega
theorem own_ne_lt {w : World} {lo e size n g : Nat} {v : Value} {xs : List Value} (h : w.ownsRow lo e size v n xs) (hg : g < lo) : v.ownBlock = none ∨ v.ownBlock ≠ some g := by
  cases hv : v.ownBlock with
  | none => exact .inl rfl
  | some q => exact .inr (fun e => by have := (h.lt q hv).1; injection e with e; omega)
/-- Three blocks at the beginning of a call: two cubes and a result. -/
def Tri3 (W : World) (g : Nat) (x : Option Addr) (n c : Nat) (y : Option Addr) (k d : Nat) (x2 : Option Addr) (n2 c2 : Nat) (y2 : Option Addr) (k2 d2 : Nat) : Prop :=
  CQ W g x n c y k d ∧ CQ W (g + 1) x2 n2 c2 y2 k2 d2 ∧ Wb W (g + 1 + 1) 27 #[.slice none 0 0, .slice none 0 0]
theorem Tri3.below {W W' : World} {g : Nat} {x : Option Addr} {n c : Nat} {y : Option Addr} {k d : Nat} {x2 : Option Addr} {n2 c2 : Nat} {y2 : Option Addr} {k2 d2 : Nat} (h : Tri3 W g x n c y k d x2 n2 c2 y2 k2 d2) (hb : Below W.heap.size W W') : Tri3 W' g x n c y k d x2 n2 c2 y2 k2 d2 := ⟨h.1.below hb, h.2.1.below hb, h.2.2.kept hb⟩
theorem Tri3.new (w : World) (x : Option Addr) (n c : Nat) (y : Option Addr) (k d : Nat) (x2 : Option Addr) (n2 c2 : Nat) (y2 : Option Addr) (k2 d2 : Nat) :
    Tri3 (((w.alloc (.cells #[.slice x n c, .slice y k d] 27)).alloc (.cells #[.slice x2 n2 c2, .slice y2 k2 d2] 27)).alloc (.cells #[.slice none 0 0, .slice none 0 0] 27)) w.heap.size x n c y k d x2 n2 c2 y2 k2 d2 := by
  refine ⟨(CQ.new w x n c y k d 27).below (by repeat (first | exact Below.refl _ _ | assumption | refine Below.drew ?_ | refine below_drewN ?_ _ | refine Below.alloc' ?_ _ | (refine Below.setCell ?_ (by first | omega | (simp; done) | (simp; omega) | exact Below.size (by assumption) | exact Nat.le_trans (Below.size (by assumption)) (by simp)) _) | (refine Below.via' ?_ (by assumption)) | (refine Below.alloc ?_ (by first | omega | (simp; done) | (simp; omega) | exact Below.size (by assumption) | exact Nat.le_trans (Below.size (by assumption)) (by simp)) _) | (refine Below.via ?_ (by assumption) (by first | omega | (simp; done) | (simp; omega) | exact Below.size (by assumption) | exact Nat.le_trans (Below.size (by assumption)) (by simp))))), ?_, ?_⟩
  · have h := (CQ.new (w.alloc (.cells #[.slice x n c, .slice y k d] 27)) x2 n2 c2 y2 k2 d2 27).below (w' := ((w.alloc (.cells #[.slice x n c, .slice y k d] 27)).alloc (.cells #[.slice x2 n2 c2, .slice y2 k2 d2] 27)).alloc (.cells #[.slice none 0 0, .slice none 0 0] 27)) (by repeat (first | exact Below.refl _ _ | assumption | refine Below.drew ?_ | refine below_drewN ?_ _ | refine Below.alloc' ?_ _ | (refine Below.setCell ?_ (by first | omega | (simp; done) | (simp; omega) | exact Below.size (by assumption) | exact Nat.le_trans (Below.size (by assumption)) (by simp)) _) | (refine Below.via' ?_ (by assumption)) | (refine Below.alloc ?_ (by first | omega | (simp; done) | (simp; omega) | exact Below.size (by assumption) | exact Nat.le_trans (Below.size (by assumption)) (by simp)) _) | (refine Below.via ?_ (by assumption) (by first | omega | (simp; done) | (simp; omega) | exact Below.size (by assumption) | exact Nat.le_trans (Below.size (by assumption)) (by simp)))))
    rwa [World.size_alloc] at h
  · have h := Wb.new ((w.alloc (.cells #[.slice x n c, .slice y k d] 27)).alloc (.cells #[.slice x2 n2 c2, .slice y2 k2 d2] 27)) 27 #[.slice none 0 0, .slice none 0 0]
    rwa [World.size_alloc, World.size_alloc] at h
set_option maxHeartbeats 16000000 in
theorem iDi_any (x y x2 y2 : Option Addr) (c d c2 d2 : Nat) (Y A Z B : List Int) (w : World) (h : CIn w x y Y A) (k : CIn w x2 y2 Z B) (hcY : Y.length ≤ c) (hnY : x = none → c = 0) (hcA : A.length ≤ d) (hnA : y = none → d = 0) :
    Calls Try.prog 40 #[.agg #[.slice x Y.length c, .slice y A.length d], .agg #[.slice x2 Z.length c2, .slice y2 B.length d2]] w (RetCu (dqR Y A Z B) (dqB Y A Z B) w) := by
  have hmY := h.1.1
  have hmA := h.2.1
  have hh := Lib.hid h
  have hk := Lib.hid k
  clear h k
  have t0n := Tri3.new w x Y.length c y A.length d x2 Z.length c2 y2 B.length d2
  obtain ⟨w0, hw0⟩ : ∃ w0, w0 = ((w.alloc (.cells #[.slice x Y.length c, .slice y A.length d] 27)).alloc (.cells #[.slice x2 Z.length c2, .slice y2 B.length d2] 27)).alloc (.cells #[.slice none 0 0, .slice none 0 0] 27) := ⟨_, rfl⟩
  have B0 : Below w.heap.size w w0 := by rw [hw0]; exact (by repeat (first | exact Below.refl _ _ | assumption | refine Below.drew ?_ | refine below_drewN ?_ _ | refine Below.alloc' ?_ _ | (refine Below.setCell ?_ (by first | omega | (simp; done) | (simp; omega) | exact Below.size (by assumption) | exact Nat.le_trans (Below.size (by assumption)) (by simp)) _) | (refine Below.via' ?_ (by assumption)) | (refine Below.alloc ?_ (by first | omega | (simp; done) | (simp; omega) | exact Below.size (by assumption) | exact Nat.le_trans (Below.size (by assumption)) (by simp)) _) | (refine Below.via ?_ (by assumption) (by first | omega | (simp; done) | (simp; omega) | exact Below.size (by assumption) | exact Nat.le_trans (Below.size (by assumption)) (by simp)))))
  rw [← hw0] at t0n
  have t0 := Lib.hid t0n
  clear t0n
  go_enter Try.func40, Try.ntmps40
  go_wp2_with fail
  rw [← hw0]
  replace hw0 := Lib.hid hw0
  refine (iCu_any _ _ _ _ Y A _ (hh.out.below B0)).mono ?_
  rintro e w1 ⟨rfl, hb1⟩
  have B1 : Below w.heap.size w w1 := Below.via' B0 hb1
  have t1 := Lib.hid (t0.out.below hb1)
  try clear a0a a0b a0c b0a b0b b0c z0a z0b z0c z0d z0e
  clear hb1
  obtain ⟨⟨a1a, a1b, a1c⟩, ⟨b1a, b1b, b1c⟩, zz1⟩ := t1.out
  have z1a := (zz1.read 0).trans rfl
  have z1b := (zz1.read 1).trans rfl
  have z1c := zz1.free 0
  have z1d := zz1.free 1
  have z1e := zz1.inside
  clear zz1
  cases hg1 : cgB Y A
  · have hv := Lib.hid (dq_no (dq_no1 Z B hg1))
    clear hg1
    go_wp2
    refine bodyPost_ret (v := .tuple #[.agg #[.slice none 0 0, .slice none 0 0], .bool false]) (by simp [results, Try.results40, go_sem, *]) rfl (retCu_no hv.out.1 hv.out.2 ?_)
    repeat (refine Below.setCell ?_ (by simp; try omega) _)
    exact B1
  have hg1h := Lib.hid hg1
  clear hg1
  go_wp2_with fail
  refine (iCu_any _ _ _ _ Z B _ (hk.out.below B1)).mono ?_
  rintro e w2 ⟨rfl, hb2⟩
  have B2 : Below w.heap.size w w2 := Below.via' B1 hb2
  have t2 := Lib.hid (t1.out.below hb2)
  try clear a1a a1b a1c b1a b1b b1c z1a z1b z1c z1d z1e
  clear hb2
  obtain ⟨⟨a2a, a2b, a2c⟩, ⟨b2a, b2b, b2c⟩, zz2⟩ := t2.out
  have z2a := (zz2.read 0).trans rfl
  have z2b := (zz2.read 1).trans rfl
  have z2c := zz2.free 0
  have z2d := zz2.free 1
  have z2e := zz2.inside
  clear zz2
  cases hg2 : cgB Z B
  · have hv := Lib.hid (dq_no (dq_no2 Y A hg2))
    clear hg2
    go_wp2
    refine bodyPost_ret (v := .tuple #[.agg #[.slice none 0 0, .slice none 0 0], .bool false]) (by simp [results, Try.results40, go_sem, *]) rfl (retCu_no hv.out.1 hv.out.2 ?_)
    repeat (refine Below.setCell ?_ (by simp; try omega) _)
    exact B2
  have hg2h := Lib.hid hg2
  clear hg2
  go_wp2_with fail
  refine (equalI_any _ _ _ _ Y Z _ hmY (hh.out.1.2.2.below B2) (hk.out.1.2.2.below B2)).mono ?_
  rintro e w3 ⟨rfl, hb3⟩
  have B3 : Below w.heap.size w w3 := Below.via' B2 hb3
  have t3 := Lib.hid (t2.out.below hb3)
  try clear a2a a2b a2c b2a b2b b2c z2a z2b z2c z2d z2e
  clear hb3
  obtain ⟨⟨a3a, a3b, a3c⟩, ⟨b3a, b3b, b3c⟩, zz3⟩ := t3.out
  have z3a := (zz3.read 0).trans rfl
  have z3b := (zz3.read 1).trans rfl
  have z3c := zz3.free 0
  have z3d := zz3.free 1
  have z3e := zz3.inside
  clear zz3
  cases hg3 : sqB Y Z
  · have hv := Lib.hid (dq_no (dq_no3 A B hg3))
    clear hg3
    go_wp2
    refine bodyPost_ret (v := .tuple #[.agg #[.slice none 0 0, .slice none 0 0], .bool false]) (by simp [results, Try.results40, go_sem, *]) rfl (retCu_no hv.out.1 hv.out.2 ?_)
    repeat (refine Below.setCell ?_ (by simp; try omega) _)
    exact B3
  have hg3h := Lib.hid hg3
  have hl := dq_len hg1h.out hg2h.out hg3
  have hlh := Lib.hid hl
  have hA2 : A.length ≤ 2000 := cf_len (cg_get hg1h.out).1
  have hbA := Lib.hid (fun j a (hj : A[j]? = some a) => inR_at (cf_get (cg_get hg1h.out).1).2.2 hj)
  have hbB := Lib.hid (fun j a (hj : B[j]? = some a) => inR_at (cf_get (cg_get hg2h.out).1).2.2 hj)
  clear hg3 hl
  have hw3 := z3e
  go_upto_region 3 with fail
  go_cut [6] (fun s6 wx => CuL s6 (Y, A) w3.heap.size wx ∧ Below w3.heap.size w3 wx)
  case first =>
      refine wp_region_held_drew (S := fun X => Below w3.heap.size w3 X) (by kernel_rfl) (Below.drew (Below.refl _ _)) (fun hH => ?_)
      refine wpAnyH_take (i := 0) (v := ?_) rfl (by kernel_rfl) (by kernel_rfl) (by kernel_rfl) (fun _ _ _ h => h) (Or.inl ⟨by rfl, ?_⟩) (by assumption) ?_; rotate_left; · (intro wz hz; (skip); clear hz; go_simp; try with_reducible rfl); (try simp only [Act.put, List.getElem_toArray, List.getElem_cons_succ, List.getElem_cons_zero, List.setIfInBounds_toArray, List.set_cons_zero, List.set_cons_succ])
      refine wpAnyH_take (i := 1) (v := ?_) rfl (by kernel_rfl) (by kernel_rfl) (by kernel_rfl) (fun _ _ _ h => h) (Or.inl ⟨by rfl, ?_⟩) (by assumption) ?_; rotate_left; · (intro wz hz; ((have f0 := (hz.cell (p := ⟨w.heap.size, 0, none⟩) a3c).trans a3a)); clear hz; go_simp; try with_reducible rfl); (try simp only [Act.put, List.getElem_toArray, List.getElem_cons_succ, List.getElem_cons_zero, List.setIfInBounds_toArray, List.set_cons_zero, List.set_cons_succ])
      refine wpAnyH_take (i := 3) (v := ?_) rfl (by kernel_rfl) (by kernel_rfl) (by kernel_rfl) (fun _ _ _ h => h) (Or.inl ⟨by rfl, ?_⟩) (by assumption) ?_; rotate_left; · (intro wz hz; (skip); clear hz; go_simp; try with_reducible rfl); (try simp only [Act.put, List.getElem_toArray, List.getElem_cons_succ, List.getElem_cons_zero, List.setIfInBounds_toArray, List.set_cons_zero, List.set_cons_succ])
      refine wpAnyH_take (i := 4) (v := ?_) rfl (by kernel_rfl) (by kernel_rfl) (by kernel_rfl) (fun _ _ _ h => h) (Or.inl ⟨by rfl, ?_⟩) (by assumption) ?_; rotate_left; · (intro wz hz; ((have f1 := (hz.cell (p := ⟨w.heap.size, 1, none⟩) a3c).trans a3b)); clear hz; go_simp; try with_reducible rfl); (try simp only [Act.put, List.getElem_toArray, List.getElem_cons_succ, List.getElem_cons_zero, List.setIfInBounds_toArray, List.set_cons_zero, List.set_cons_succ])
      clear a3a a3b b3a b3b z3a z3b z3c z3d
      replace hH := Lib.hid hH
      refine wpAnyH_ready (rs := [2, 7]) (by kernel_rfl) (by simp) (AllReadyH.cons rfl (fun K hK => ?_) (AllReadyH.cons rfl (fun K hK => ?_) AllReadyH.nil))
      go_simp
      refine (cloneInt_any x c Y _ hmY hcY hnY (hh.out.1.2.2.below (Below.via' B3 hH.out))).mono ?_
      rintro e wS ⟨uS, rfl, hoS, hbS⟩
      have hOS := Lib.hid (OwR.of hoS)
      obtain ⟨xS, cS, rfl, -, -⟩ := hOS.out.form
      clear hoS
      have hS1 := Lib.hid (Below.via' hH.out hbS)
      refine hK.out _ _ hS1.out (fun _ => ?_)
      clear hK K
      (try simp only [Act.put, List.getElem_toArray, List.getElem_cons_succ, List.getElem_cons_zero, List.setIfInBounds_toArray, List.set_cons_zero, List.set_cons_succ])
      refine wpAnyH_ready (rs := [5, 7]) (by kernel_rfl) (by simp) (AllReadyH.cons rfl (fun K hK => ?_) (AllReadyH.cons rfl (fun K hK => ?_) AllReadyH.nil))
      go_simp
      refine (cloneInt_any y d A _ hmA hcA hnA (hh.out.2.2.2.below (Below.via' B3 hS1.out))).mono ?_
      rintro e wC ⟨uC, rfl, hoC, hbC⟩
      have hOC := Lib.hid (OwR.of hoC)
      obtain ⟨xC, cC, rfl, -, -⟩ := hOC.out.form
      clear hoC
      have hC1 := Lib.hid (Below.via' hS1.out hbC)
      refine hK.out _ _ hC1.out (fun _ => ?_)
      clear hK K
      (try simp only [Act.put, List.getElem_toArray, List.getElem_cons_succ, List.getElem_cons_zero, List.setIfInBounds_toArray, List.set_cons_zero, List.set_cons_succ])
      refine wpAnyH_take (i := 6) (v := ?_) rfl (by kernel_rfl) (by kernel_rfl) (by kernel_rfl) (fun _ _ _ h => h) (Or.inl ⟨by rfl, ?_⟩) (by assumption) ?_; rotate_left; · (intro wz hz; (skip); clear hz; go_simp; try with_reducible rfl); (try simp only [Act.put, List.getElem_toArray, List.getElem_cons_succ, List.getElem_cons_zero, List.setIfInBounds_toArray, List.set_cons_zero, List.set_cons_succ])
      refine wpAnyH_ready (rs := [7]) (by kernel_rfl) (by simp) (AllReadyH.cons rfl (fun K hK => ?_) AllReadyH.nil)
      go_simp
      have bx := Lib.hid (show Wb ((wC).alloc (.cells #[.slice none 0 0, .slice none 0 0] 27)) (wC.heap.size) 27 #[.slice none 0 0, .slice none 0 0] from Wb.new (wC) 27 #[.slice none 0 0, .slice none 0 0])
      have ga0 := hC1.out.size
      have hA1 := Lib.hid (Below.alloc' hC1.out (.cells #[.slice none 0 0, .slice none 0 0] 27))
      refine hK.out _ _ hA1.out (fun _ => ?_)
      clear hK K
      (try simp only [Act.put, List.getElem_toArray, List.getElem_cons_succ, List.getElem_cons_zero, List.setIfInBounds_toArray, List.set_cons_zero, List.set_cons_succ])
      refine wpAnyH_ready (rs := [8]) (by kernel_rfl) (by simp) (AllReadyH.cons rfl (fun K hK => ?_) AllReadyH.nil); go_simp
      have hst := Below.alloc' hC1.out (.cells #[.slice xS Y.length cS, .slice xC A.length cC] 27)
      have sC := hbC.size
      have sS := hS1.out.size
      have hat := cuL_mk (lo := w3.heap.size) (Wb.new wC 27 #[.slice xS Y.length cS, .slice xC A.length cC]) (by omega) ((hOS.out.below hbC).below (Below.alloc' (Below.refl _ _) _)) (hOC.out.below (Below.alloc' (Below.refl _ _) _)) (Nat.le_refl _) sS (Or.inl (Nat.le_refl _))
      refine hK.out _ _ hst (fun _ => ?_)
      clear hK K
      (try simp only [Act.put, List.getElem_toArray, List.getElem_cons_succ, List.getElem_cons_zero, List.setIfInBounds_toArray, List.set_cons_zero, List.set_cons_succ])
      refine wpAnyH_done (by kernel_rfl) ?_ _
      go_wp2_with fail
      go_meet
      exact ⟨hat, hst⟩
      go_simp
      have bx := Lib.hid (show Wb ((wS).alloc (.cells #[.slice none 0 0, .slice none 0 0] 27)) (wS.heap.size) 27 #[.slice none 0 0, .slice none 0 0] from Wb.new (wS) 27 #[.slice none 0 0, .slice none 0 0])
      have ga0 := hS1.out.size
      have hA1 := Lib.hid (Below.alloc' hS1.out (.cells #[.slice none 0 0, .slice none 0 0] 27))
      refine hK.out _ _ hA1.out (fun _ => ?_)
      clear hK K
      (try simp only [Act.put, List.getElem_toArray, List.getElem_cons_succ, List.getElem_cons_zero, List.setIfInBounds_toArray, List.set_cons_zero, List.set_cons_succ])
      refine wpAnyH_ready (rs := [5]) (by kernel_rfl) (by simp) (AllReadyH.cons rfl (fun K hK => ?_) AllReadyH.nil)
      go_simp
      refine (cloneInt_any y d A _ hmA hcA hnA (hh.out.2.2.2.below (Below.via' B3 hA1.out))).mono ?_
      rintro e wC ⟨uC, rfl, hoC, hbC⟩
      have hOC := Lib.hid (OwR.of hoC)
      obtain ⟨xC, cC, rfl, -, -⟩ := hOC.out.form
      clear hoC
      have hC1 := Lib.hid (Below.via' hA1.out hbC)
      refine hK.out _ _ hC1.out (fun _ => ?_)
      clear hK K
      (try simp only [Act.put, List.getElem_toArray, List.getElem_cons_succ, List.getElem_cons_zero, List.setIfInBounds_toArray, List.set_cons_zero, List.set_cons_succ])
      refine wpAnyH_take (i := 6) (v := ?_) rfl (by kernel_rfl) (by kernel_rfl) (by kernel_rfl) (fun _ _ _ h => h) (Or.inl ⟨by rfl, ?_⟩) (by assumption) ?_; rotate_left; · (intro wz hz; (skip); clear hz; go_simp; try with_reducible rfl); (try simp only [Act.put, List.getElem_toArray, List.getElem_cons_succ, List.getElem_cons_zero, List.setIfInBounds_toArray, List.set_cons_zero, List.set_cons_succ])
      have bx2 := Lib.hid (bx.out.kept hbC)
      have ya : wC.cell? ⟨_, 0, none⟩ = some (.slice none 0 0) := (bx2.out.read 0).trans rfl
      have yb : wC.cell? ⟨_, 1, none⟩ = some (.slice none 0 0) := (bx2.out.read 1).trans rfl
      have ye := bx2.out.free 0
      have yf := bx2.out.free 1
      have yin := bx2.out.inside
      refine wpAnyH_ready (rs := [8]) (by kernel_rfl) (by simp) (AllReadyH.cons rfl (fun K hK => ?_) AllReadyH.nil); go_simp
      have sC := hbC.size
      rw [World.size_alloc] at sC
      have sS := hS1.out.size
      have hst : Below w3.heap.size w3 ((wC.setCell ⟨wS.heap.size, 0, none⟩ (.slice xS Y.length cS)).setCell ⟨wS.heap.size, 1, none⟩ (.slice xC A.length cC)) := below_set2 hC1.out ga0
      have hat : CuL (.pointer (some ⟨wS.heap.size, 0, none⟩)) (Y, A) w3.heap.size ((wC.setCell ⟨wS.heap.size, 0, none⟩ (.slice xS Y.length cS)).setCell ⟨wS.heap.size, 1, none⟩ (.slice xC A.length cC)) := cuL_mk ((bx2.out.put 0 _).put 1 _) ga0 (((((hOS.out.below (Below.alloc' (Below.refl _ _) _)).below hbC)).asideU _ _ (Or.inr (Nat.le_refl _))).asideU _ _ (Or.inr (Nat.le_refl _))) ((hOC.out.asideU _ _ (by left; simp)).asideU _ _ (by left; simp)) (Nat.le_refl _) (by simp; omega) (by left; simp)
      refine hK.out _ _ hst (fun _ => ?_)
      clear hK K ya yb ye yf
      (try simp only [Act.put, List.getElem_toArray, List.getElem_cons_succ, List.getElem_cons_zero, List.setIfInBounds_toArray, List.set_cons_zero, List.set_cons_succ])
      refine wpAnyH_done (by kernel_rfl) ?_ _
      go_wp2_with fail
      go_meet
      exact ⟨hat, hst⟩
      go_simp
      have bx := Lib.hid (show Wb ((w3.drew).alloc (.cells #[.slice none 0 0, .slice none 0 0] 27)) (w3.heap.size) 27 #[.slice none 0 0, .slice none 0 0] from Wb.new (w3.drew) 27 #[.slice none 0 0, .slice none 0 0])
      have ga0 := hH.out.size
      have hA1 := Lib.hid (Below.alloc' hH.out (.cells #[.slice none 0 0, .slice none 0 0] 27))
      refine hK.out _ _ hA1.out (fun _ => ?_)
      clear hK K
      (try simp only [Act.put, List.getElem_toArray, List.getElem_cons_succ, List.getElem_cons_zero, List.setIfInBounds_toArray, List.set_cons_zero, List.set_cons_succ])
      refine wpAnyH_ready (rs := [2]) (by kernel_rfl) (by simp) (AllReadyH.cons rfl (fun K hK => ?_) AllReadyH.nil)
      go_simp
      refine (cloneInt_any x c Y _ hmY hcY hnY (hh.out.1.2.2.below (Below.via' B3 hA1.out))).mono ?_
      rintro e wS ⟨uS, rfl, hoS, hbS⟩
      have hOS := Lib.hid (OwR.of hoS)
      obtain ⟨xS, cS, rfl, -, -⟩ := hOS.out.form
      clear hoS
      have hS1 := Lib.hid (Below.via' hA1.out hbS)
      refine hK.out _ _ hS1.out (fun _ => ?_)
      clear hK K
      (try simp only [Act.put, List.getElem_toArray, List.getElem_cons_succ, List.getElem_cons_zero, List.setIfInBounds_toArray, List.set_cons_zero, List.set_cons_succ])
      have bx1 := Lib.hid (bx.out.kept hbS)
      refine wpAnyH_ready (rs := [5]) (by kernel_rfl) (by simp) (AllReadyH.cons rfl (fun K hK => ?_) AllReadyH.nil)
      go_simp
      refine (cloneInt_any y d A _ hmA hcA hnA (hh.out.2.2.2.below (Below.via' B3 hS1.out))).mono ?_
      rintro e wC ⟨uC, rfl, hoC, hbC⟩
      have hOC := Lib.hid (OwR.of hoC)
      obtain ⟨xC, cC, rfl, -, -⟩ := hOC.out.form
      clear hoC
      have hC1 := Lib.hid (Below.via' hS1.out hbC)
      refine hK.out _ _ hC1.out (fun _ => ?_)
      clear hK K
      (try simp only [Act.put, List.getElem_toArray, List.getElem_cons_succ, List.getElem_cons_zero, List.setIfInBounds_toArray, List.set_cons_zero, List.set_cons_succ])
      refine wpAnyH_take (i := 6) (v := ?_) rfl (by kernel_rfl) (by kernel_rfl) (by kernel_rfl) (fun _ _ _ h => h) (Or.inl ⟨by rfl, ?_⟩) (by assumption) ?_; rotate_left; · (intro wz hz; (skip); clear hz; go_simp; try with_reducible rfl); (try simp only [Act.put, List.getElem_toArray, List.getElem_cons_succ, List.getElem_cons_zero, List.setIfInBounds_toArray, List.set_cons_zero, List.set_cons_succ])
      have bx2 := Lib.hid (bx1.out.kept hbC)
      have ya : wC.cell? ⟨_, 0, none⟩ = some (.slice none 0 0) := (bx2.out.read 0).trans rfl
      have yb : wC.cell? ⟨_, 1, none⟩ = some (.slice none 0 0) := (bx2.out.read 1).trans rfl
      have ye := bx2.out.free 0
      have yf := bx2.out.free 1
      have yin := bx2.out.inside
      refine wpAnyH_ready (rs := [8]) (by kernel_rfl) (by simp) (AllReadyH.cons rfl (fun K hK => ?_) AllReadyH.nil); go_simp
      have sC := hbC.size
      have sS := hbS.size
      have sA : (w3.drew.alloc (.cells #[.slice none 0 0, .slice none 0 0] 27)).heap.size = w3.heap.size + 1 := by rw [World.size_alloc]; rfl
      have hst : Below w3.heap.size w3 ((wC.setCell ⟨w3.heap.size, 0, none⟩ (.slice xS Y.length cS)).setCell ⟨w3.heap.size, 1, none⟩ (.slice xC A.length cC)) := below_set2 hC1.out ga0
      have hat : CuL (.pointer (some ⟨w3.heap.size, 0, none⟩)) (Y, A) w3.heap.size ((wC.setCell ⟨w3.heap.size, 0, none⟩ (.slice xS Y.length cS)).setCell ⟨w3.heap.size, 1, none⟩ (.slice xC A.length cC)) := cuL_mk ((bx2.out.put 0 _).put 1 _) ga0 ((((hOS.out.below hbC)).asideU _ _ (by left; rw [sA]; show w3.heap.size < _; omega)).asideU _ _ (by left; rw [sA]; show w3.heap.size < _; omega)) ((hOC.out.asideU _ _ (by left; show w3.heap.size < _; omega)).asideU _ _ (by left; show w3.heap.size < _; omega)) (by rw [sA]; omega) (by omega) (by left; exact Nat.le_refl _)
      refine hK.out _ _ hst (fun _ => ?_)
      clear hK K ya yb ye yf
      (try simp only [Act.put, List.getElem_toArray, List.getElem_cons_succ, List.getElem_cons_zero, List.setIfInBounds_toArray, List.set_cons_zero, List.set_cons_succ])
      refine wpAnyH_done (by kernel_rfl) ?_ _
      go_wp2_with fail
      go_meet
      exact ⟨hat, hst⟩
  obtain ⟨⟨g, xS, cS, xC, cC, rfl, hG, hgl, hOS, hOC, hne⟩, hb4⟩ := hcut
  obtain ⟨w4, rfl⟩ : ∃ u : World, u = wc := ⟨_, rfl⟩
  have hb4x := hb4
  dsimp only at hG hOS hOC hne
  have B4 : Below w.heap.size w w4 := Below.via' B3 hb4
  have t4 := Lib.hid (t3.out.below hb4)
  try clear a3a a3b a3c b3a b3b b3c z3a z3b z3c z3d z3e
  clear hb4
  obtain ⟨⟨a4a, a4b, a4c⟩, ⟨b4a, b4b, b4c⟩, zz4⟩ := t4.out
  have z4a := (zz4.read 0).trans rfl
  have z4b := (zz4.read 1).trans rfl
  have z4c := zz4.free 0
  have z4d := zz4.free 1
  have z4e := zz4.inside
  clear zz4
  have hsz4 := B4.size
  have hgw : w.heap.size + 1 + 1 < g := by omega
  have hGh := Lib.hid hG
  have hOSh := Lib.hid hOS
  have hOCh := Lib.hid hOC
  have hneh := Lib.hid hne
  have hz3 := B3.size
  have hb4s := (show Below w3.heap.size w3 w4 from hb4x).size
  clear hG hOS hOC hne
  go_wp2
  clear a4a a4b b4a b4b z4a z4b z4c z4d z4e
  go_loopw [36] (fun q wr => ∃ j : Nat, j ≤ B.length ∧ q = .int .i64 j ∧ Hid (Wb wr g 27 #[.slice xS Y.length cS, .slice xC A.length cC]) ∧ Hid (wr.ownsRow w3.heap.size 3 1 (.slice xS Y.length cS) Y.length (iC Y)) ∧ Hid (wr.ownsRow w3.heap.size 3 1 (.slice xC A.length cC) A.length (iC (dfK A B j))) ∧ Hid (Tri3 wr w.heap.size x Y.length c y A.length d x2 Z.length c2 y2 B.length d2) ∧ Below w.heap.size w wr) (fun q _ => B.length - (intOf q).toNat)
  case atStart => exact ⟨0, by omega, by go_num, hGh.out, hOSh.out, hOCh.out, t4.out, B4⟩
  case round =>
    clear hGh hOSh hOCh t4 B4
    obtain ⟨j, hj, rfl, hG, hOS, hOC, tr, hB⟩ := hrel
    have g0 : wr.cell? ⟨g, 0, none⟩ = some (.slice xS Y.length cS) := (hG.out.read 0).trans rfl
    have g1 : wr.cell? ⟨g, 1, none⟩ = some (.slice xC A.length cC) := (hG.out.read 1).trans rfl
    have gi := hG.out.inside
    obtain ⟨⟨ara, arb, arc⟩, ⟨bra, brb, brc⟩, zzr⟩ := tr.out
    clear zzr
    by_cases hlt : j < B.length
    · obtain ⟨gC, cC2, he⟩ := own_some hOC.out (by have := hlh.out; omega)
      cases he
      obtain ⟨bl, off, b, rfl, hbl, hBj, hc0⟩ := (hk.out.below hB).2.2.2.int hlt
      have hjA : j < A.length := by have := hlh.out; omega
      have hAj : A[j]? = some A[j] := List.getElem?_eq_getElem hjA
      obtain ⟨u, hu, k0⟩ := own_cell hOC.out (j := j) (by omega)
      obtain rfl : u = .int .i64 A[j] := Option.some.inj (hu.symm.trans (iC_at ((dfK_late A B j j (Nat.le_refl _)).trans hAj)))
      have k2 := hOC.out.frozenAt j
      have k4 := (own_lt hOC.out).2
      have k5 := (own_lt hOC.out).1
      have b1 := hbA.out j _ hAj
      have b2 := hbB.out j _ hBj
      generalize A[j] = a at *
      have hst := Lib.hid (dfK_step hAj hBj)
      have hlt' : (j : Int) < (B.length : Int) := by omega
      have hlt2 : (j : Int) < (A.length : Int) := by omega
      have hgg : gC ≠ g := fun e => wb_apart hG.out hOC.out (by decide) (by rw [e]; rfl)
      have hG2 : Hid (Wb (wr.setCell ⟨gC, j, none⟩ (.int .i64 (a - b))) g 27 #[.slice xS Y.length cS, .slice (some ⟨gC, 0, none⟩) A.length cC]) := hG.out.off ⟨gC, j, none⟩ (Ne.symm hgg) _
      have hOS2 : Hid ((wr.setCell ⟨gC, j, none⟩ (.int .i64 (a - b))).ownsRow w3.heap.size 3 1 (.slice xS Y.length cS) Y.length (iC Y)) := hOS.out.kept (grown_setU wr ⟨gC, j, none⟩ _) (by
        cases hv : (Value.slice xS Y.length cS).ownBlock with
        | none => exact .inl rfl
        | some q => exact .inr (fun e => hneh.out q hv (by cases e; rfl)))
      have hOC2 : Hid ((wr.setCell ⟨gC, j, none⟩ (.int .i64 (a - b))).ownsRow w3.heap.size 3 1 (.slice (some ⟨gC, 0, none⟩) A.length cC) A.length (iC (dfK A B (j + 1)))) := by
        have h5 := (hOC.out.stored j (.int .i64 (a - b))).1
        rw [← iC_setA, ← hst.out] at h5
        exact h5
      have tr2 : Hid (Tri3 (wr.setCell ⟨gC, j, none⟩ (.int .i64 (a - b))) w.heap.size x Y.length c y A.length d x2 Z.length c2 (some ⟨bl, off, none⟩) B.length d2) := ⟨tr.out.1.grown (grown_setU wr ⟨gC, j, none⟩ _) (by intro e; injection e with e; simp at e; omega), tr.out.2.1.grown (grown_setU wr ⟨gC, j, none⟩ _) (by intro e; injection e with e; simp at e; omega), tr.out.2.2.off ⟨gC, j, none⟩ (by show w.heap.size + 1 + 1 ≠ gC; omega) _⟩
      replace hu := Lib.hid hu
      replace hAj := Lib.hid hAj
      replace hBj := Lib.hid hBj
      go_wp2
      go_roundw
      case rel => exact ⟨j + 1, by omega, by go_num, hG2, hOS2, hOC2, tr2, Below.setCell (p := ⟨gC, j, none⟩) hB (by show w.heap.size ≤ gC; omega) _⟩
      case measure => simp [intOf]; omega
    · have hij : j = B.length := by omega
      subst hij
      have hdl := Lib.hid (dfK_all hlh.out)
      have hO3 : Hid (wr.ownsRow w3.heap.size 3 1 (.slice xC A.length cC) A.length (iC (dfC A B))) := by
        have h5 := hOC.out
        rw [hdl.out] at h5
        exact h5
      have hdlen := Lib.hid (dfC_len hlh.out)
      have hci : Hid (CIn wr xS xC Y (dfC A B)) := by
        refine ⟨⟨hmY, hh.out.1.2.1, Rd.of_own hOS.out⟩, ⟨by rw [hdlen.out]; omega, fun n hn => ?_, Rd.of_own hO3.out⟩⟩
        obtain ⟨i, hi, e⟩ := List.getElem_of_mem hn
        have hi2 : i < A.length := by rw [← hdlen.out]; exact hi
        have hA1 : A[i]? = some A[i] := List.getElem?_eq_getElem hi2
        have hB1 : B[i]? = some (B[i]'(by have := hlh.out; omega)) := List.getElem?_eq_getElem (by have := hlh.out; omega)
        have h6 := dfC_at hA1 hB1
        rw [List.getElem?_eq_getElem hi, e] at h6
        have := hbA.out i _ hA1
        have := hbB.out i _ hB1
        have h7 := Option.some.inj h6
        unfold IsI64
        omega
      have hcall := wl_any xS xC cS cC Y (dfC A B) wr hci.out
      rw [hdlen.out] at hcall
      have ze := tr.out.2.2.inside
      go_wp2_with fail
      refine hcall.mono ?_
      rintro e w5 ⟨h5, hb5⟩
      clear hcall
      have B5 : Below w.heap.size w w5 := Below.via' hB hb5
      have hs5 : w3.heap.size ≤ w5.heap.size := by have := hG.out.inside; have := hb5.size; omega
      have z5 := tr.out.2.2.kept hb5
      have z5a : w5.cell? ⟨w.heap.size + 1 + 1, 0, none⟩ = some (.slice none 0 0) := (z5.read 0).trans rfl
      have z5b : w5.cell? ⟨w.heap.size + 1 + 1, 1, none⟩ = some (.slice none 0 0) := (z5.read 1).trans rfl
      have z5c := z5.free 0
      have z5d := z5.free 1
      have z5e := z5.inside
      have hS5 := Lib.hid (own_below hOS.out hb5)
      have hC5 := Lib.hid (own_below hO3.out hb5)
      have z5h := Lib.hid z5
      clear z5 hb5 g0 g1 gi ara arb arc bra brb brc
      rcases h5 with ⟨hr, rfl⟩ | ⟨hr, rfl⟩
      · have hv := Lib.hid (dq_yes (dq_ok hg1h.out hg2h.out hg3h.out hr))
        clear hr
        go_wp2
        refine bodyPost_ret (v := .tuple #[.agg #[.slice xS Y.length cS, .slice xC A.length cC], .bool true]) (by simp [results, Try.results40, go_sem, *]) rfl ?_
        have hlen := hdlen.out
        rw [← hlen]
        refine retCu_yes hv.out.1 hv.out.2 ?_ ?_
        · refine OwU.more (lo := w3.heap.size) (owU_of ?_ ?_ ?_ ?_) hz3 (Nat.le_refl _)
          · simp only [World.size_setCell]
            exact hs5
          · exact ((hS5.out.kept (grown_setU _ _ _) (own_ne_lt hS5.out (by show w.heap.size + 1 + 1 < w3.heap.size; omega))).kept (grown_setU _ _ _) (own_ne_lt hS5.out (by show w.heap.size + 1 + 1 < w3.heap.size; omega)))
          · rw [hlen]
            exact ((hC5.out.kept (grown_setU _ _ _) (own_ne_lt hC5.out (by show w.heap.size + 1 + 1 < w3.heap.size; omega))).kept (grown_setU _ _ _) (own_ne_lt hC5.out (by show w.heap.size + 1 + 1 < w3.heap.size; omega)))
          · intro q hq e
            rw [hlen] at e
            exact hneh.out q hq e
        · repeat (refine Below.setCell ?_ (by simp; try omega) _)
          exact B5
      · have hv := Lib.hid (dq_no (dq_no4 Y Z hr))
        clear hr
        go_wp2
        refine bodyPost_ret (v := .tuple #[.agg #[.slice none 0 0, .slice none 0 0], .bool false]) (by simp [results, Try.results40, go_sem, *]) rfl (retCu_no hv.out.1 hv.out.2 ?_)
        repeat (refine Below.setCell ?_ (by simp; try omega) _)
        exact B5
end Go.Proofs.Ytnmpigedhpdenaa

namespace Go.Proofs.Ytnmpigedhpdenaa
open Go.RowKit
set_option maxRecDepth 100000

def mvK (A F : List Int) : Nat → List Int
  | 0 => A
  | j + 1 => if F.getD j 0 = -1 then mvK A F j else (mvK A F j).set j (F.getD j 0)
theorem mvK_yes {A F : List Int} {j : Nat} {f : Int} (h : F[j]? = some f) (k : f = -1) : mvK A F (j + 1) = mvK A F j := by
  show (if _ then _ else _) = _
  rw [getD_at h, if_pos k]
theorem mvK_no {A F : List Int} {j : Nat} {f : Int} (h : F[j]? = some f) (k : ¬ f = -1) : mvK A F (j + 1) = (mvK A F j).set j f := by
  show (if _ then _ else _) = _
  rw [getD_at h, if_neg k]
theorem mvK_len (A F : List Int) : ∀ j, (mvK A F j).length = A.length
  | 0 => rfl
  | j + 1 => by
    unfold mvK
    split
    · exact mvK_len A F j
    · rw [List.length_set]; exact mvK_len A F j
theorem mvK_four (a b c d e f g h : Int) : mvK [a, b, c, d] [e, f, g, h] 4 = mvL [a, b, c, d] [e, f, g, h] := by
  unfold mvK mvK mvK mvK mvK mvL
  simp only [List.getD_cons_zero, List.getD_cons_succ, List.zipWith_cons_cons, List.zipWith_nil_left]
  split <;> split <;> split <;> split <;> rfl
/-- The place, moved. -/
def MvPost (A F : List Int) (w : World) (e : Ending) (w' : World) : Prop := ∃ a b c d : Int, mvL A F = [a, b, c, d] ∧ e = .returned (.agg #[.int .i64 a, .int .i64 b, .int .i64 c, .int .i64 d]) ∧ Below w.heap.size w w'
theorem run_four (e f g h : Int) (w : World) {j : Nat} {x : Int} (hx : [e, f, g, h][j]? = some x) : Sem.run Try.prog (Instr.index 81 (.agg #[.int .i64 e, .int .i64 f, .int .i64 g, .int .i64 h]) (.int .i64 (j : Int))) w = .ok (.int .i64 x) w := by
  have hj := (List.getElem?_eq_some_iff.1 hx).1
  simp at hj
  have : j = 0 ∨ j = 1 ∨ j = 2 ∨ j = 3 := by omega
  rcases this with rfl | rfl | rfl | rfl <;> simp at hx <;> subst hx <;> rfl
set_option maxHeartbeats 4000000 in
theorem moved_any (a b c d e f g h : Int) (w : World) :
    Calls Try.prog 99 #[.agg #[.int .i64 a, .int .i64 b, .int .i64 c, .int .i64 d], .agg #[.int .i64 e, .int .i64 f, .int .i64 g, .int .i64 h]] w (MvPost [a, b, c, d] [e, f, g, h] w) := by
  have q2 := Lib.hid (show Wb (((w.alloc (.cells #[.int .i64 a, .int .i64 b, .int .i64 c, .int .i64 d] 81)).alloc (.cells #[.int .i64 e, .int .i64 f, .int .i64 g, .int .i64 h] 81)).alloc (.cells #[.int .i64 0, .int .i64 0, .int .i64 0, .int .i64 0] 81)) w.heap.size 81 (iC (mvK [a, b, c, d] [e, f, g, h] 0)).toArray from (Wb.new w 81 #[.int .i64 a, .int .i64 b, .int .i64 c, .int .i64 d]).kept (by repeat (first | exact Below.refl _ _ | assumption | refine Below.drew ?_ | refine below_drewN ?_ _ | refine Below.alloc' ?_ _ | (refine Below.setCell ?_ (by first | omega | (simp; done) | (simp; omega) | exact Below.size (by assumption) | exact Nat.le_trans (Below.size (by assumption)) (by simp)) _) | (refine Below.via' ?_ (by assumption)) | (refine Below.alloc ?_ (by first | omega | (simp; done) | (simp; omega) | exact Below.size (by assumption) | exact Nat.le_trans (Below.size (by assumption)) (by simp)) _) | (refine Below.via ?_ (by assumption) (by first | omega | (simp; done) | (simp; omega) | exact Below.size (by assumption) | exact Nat.le_trans (Below.size (by assumption)) (by simp))))))
  have q4 := Lib.hid (Wb.new ((w.alloc (.cells #[.int .i64 a, .int .i64 b, .int .i64 c, .int .i64 d] 81)).alloc (.cells #[.int .i64 e, .int .i64 f, .int .i64 g, .int .i64 h] 81)) 81 #[.int .i64 0, .int .i64 0, .int .i64 0, .int .i64 0])
  have hB0 : Below w.heap.size w (((w.alloc (.cells #[.int .i64 a, .int .i64 b, .int .i64 c, .int .i64 d] 81)).alloc (.cells #[.int .i64 e, .int .i64 f, .int .i64 g, .int .i64 h] 81)).alloc (.cells #[.int .i64 0, .int .i64 0, .int .i64 0, .int .i64 0] 81)) := (by repeat (first | exact Below.refl _ _ | assumption | refine Below.drew ?_ | refine below_drewN ?_ _ | refine Below.alloc' ?_ _ | (refine Below.setCell ?_ (by first | omega | (simp; done) | (simp; omega) | exact Below.size (by assumption) | exact Nat.le_trans (Below.size (by assumption)) (by simp)) _) | (refine Below.via' ?_ (by assumption)) | (refine Below.alloc ?_ (by first | omega | (simp; done) | (simp; omega) | exact Below.size (by assumption) | exact Nat.le_trans (Below.size (by assumption)) (by simp)) _) | (refine Below.via ?_ (by assumption) (by first | omega | (simp; done) | (simp; omega) | exact Below.size (by assumption) | exact Nat.le_trans (Below.size (by assumption)) (by simp)))))
  go_enter Try.func99, Try.ntmps99
  go_wp2
  go_loopw [8] (fun q wr => ∃ j : Nat, j ≤ 4 ∧ q = .int .i64 j ∧ Hid (Wb wr w.heap.size 81 (iC (mvK [a, b, c, d] [e, f, g, h] j)).toArray) ∧ Hid (Wb wr (w.heap.size + 1 + 1) 81 #[.int .i64 0, .int .i64 0, .int .i64 0, .int .i64 0]) ∧ Below w.heap.size w wr) (fun q _ => 4 - (intOf q).toNat)
  case atStart => exact ⟨0, by omega, by go_num, q2.out, (by have h0 := q4.out; rwa [World.size_alloc, World.size_alloc] at h0), hB0⟩
  case round =>
    clear q2 q4 hB0
    obtain ⟨j, hj, rfl, q2, q4, hB⟩ := hrel
    by_cases hlt : j < 4
    · obtain ⟨x, hx, hx2⟩ := four_at (a := e) (b := f) (c := g) (d := h) hlt
      obtain ⟨y, hy⟩ : ∃ y, (mvK [a, b, c, d] [e, f, g, h] j)[j]? = some y := ⟨_, List.getElem?_eq_getElem (by rw [mvK_len]; exact hlt)⟩
      have k0 := q2.out.atI hy
      have k2 := q2.out.free j
      have k4 := q2.out.inside
      have hlt' : (j : Int) < 4 := by omega
      have hj0 : (0 : Int) ≤ (j : Int) := by omega
      have hrun := run_four e f g h wr hx
      replace hy := Lib.hid hy
      by_cases hm : x = -1
      · have hst := Lib.hid (mvK_yes (A := [a, b, c, d]) hx hm)
        replace hx := Lib.hid hx
        go_wp2
        go_roundw
        case rel => exact ⟨j + 1, by omega, by go_num, (by unfold Hid; rw [hst.out]; exact q2.out), q4, hB⟩
        case measure => simp [intOf]; omega
      · have hst := Lib.hid (mvK_no (A := [a, b, c, d]) hx hm)
        have hB2 : Below w.heap.size w (wr.setCell ⟨w.heap.size, j, none⟩ (.int .i64 x)) := Below.setCell (p := ⟨w.heap.size, j, none⟩) hB (Nat.le_refl _) _
        have q22 := Lib.hid (q2.out.putI j x)
        have q42 := Lib.hid (q4.out.off ⟨w.heap.size, j, none⟩ (by show w.heap.size + 1 + 1 ≠ w.heap.size; omega) (.int .i64 x))
        replace hx := Lib.hid hx
        go_wp2
        go_roundw
        case rel => exact ⟨j + 1, by omega, by go_num, (by unfold Hid; rw [hst.out]; exact q22.out), q42, hB2⟩
        case measure => simp [intOf]; omega
    · have hij : j = 4 := by omega
      subst hij
      rw [mvK_four] at q2
      obtain ⟨a', b', c', d', hab⟩ := four_of (L := mvL [a, b, c, d] [e, f, g, h]) rfl
      rw [hab] at q2
      have hab2 := Lib.hid hab
      have k0 : wr.cell? ⟨w.heap.size, 0, none⟩ = some (.int .i64 a') := (q2.out.read 0).trans rfl
      have k1 : wr.cell? ⟨w.heap.size, 1, none⟩ = some (.int .i64 b') := (q2.out.read 1).trans rfl
      have k2 : wr.cell? ⟨w.heap.size, 2, none⟩ = some (.int .i64 c') := (q2.out.read 2).trans rfl
      have k3 : wr.cell? ⟨w.heap.size, 3, none⟩ = some (.int .i64 d') := (q2.out.read 3).trans rfl
      have k4 := q2.out.inside
      have r0 : wr.cell? ⟨w.heap.size + 1 + 1, 0, none⟩ = some (.int .i64 0) := (q4.out.read 0).trans rfl
      have r1 : wr.cell? ⟨w.heap.size + 1 + 1, 1, none⟩ = some (.int .i64 0) := (q4.out.read 1).trans rfl
      have r2 : wr.cell? ⟨w.heap.size + 1 + 1, 2, none⟩ = some (.int .i64 0) := (q4.out.read 2).trans rfl
      have r3 : wr.cell? ⟨w.heap.size + 1 + 1, 3, none⟩ = some (.int .i64 0) := (q4.out.read 3).trans rfl
      have s0 := q4.out.free 0
      have s1 := q4.out.free 1
      have s2 := q4.out.free 2
      have s3 := q4.out.free 3
      have s4 := q4.out.inside
      clear hab
      go_wp2
      refine bodyPost_ret (v := .agg #[.int .i64 a', .int .i64 b', .int .i64 c', .int .i64 d']) (by simp [results, Try.results99, go_sem, *]) rfl ?_
      refine ⟨a', b', c', d', hab2.out, rfl, ?_⟩
      repeat (refine Below.setCell ?_ (by simp; try omega) _)
      exact hB
end Go.Proofs.Ytnmpigedhpdenaa

namespace Go.Proofs.Ytnmpigedhpdenaa
open Go.RowKit
theorem part_int (w : World) (xs : Array Value) (o : Nat) (n : Int) (h : xs[o]? = some (.int .i64 n)) : (part 3 xs o).run Try.prog w = .ok (.int .i64 n) w := by
  simp [part, h]
theorem run_eq_four (w : World) (a b c d a' b' c' d' : Int) : (Op.equalIn 10000 81 (.agg #[.int .i64 a, .int .i64 b, .int .i64 c, .int .i64 d]) (.agg #[.int .i64 a', .int .i64 b', .int .i64 c', .int .i64 d'])).run Try.prog w = .ok (decide (a = a' ∧ b = b' ∧ c = c' ∧ d = d')) w := by
  obtain ⟨i0, hii, hz0, hz1, hz2⟩ := info_parts Try.infoInt
  have hu : Try.prog.underlying 81 = some (.array 4 3) := by kernel_rfl
  have hq : Try.prog.underlying 3 = some (.int .i64) := by kernel_rfl
  have hc : Try.prog.cellsOf 3 = 1 := by kernel_rfl
  rw [show (10000 : Nat) = 9999 + 1 from rfl, run_equalIn_array w 9999 _ _ hu hii, hc]
  have key : ∀ (p q r t : Int) (j : Nat) (n : Int), [p, q, r, t][j]? = some n → (part 3 #[.int .i64 p, .int .i64 q, .int .i64 r, .int .i64 t] j).run Try.prog w = .ok (.int .i64 n) w := fun p q r t j n h => part_int w _ j n (by
    rw [← Array.getElem?_toList]
    exact iC_at h)
  have e0 := fun p q r t : Int => key p q r t 0 p rfl
  have e1 := fun p q r t : Int => key p q r t 1 q rfl
  have e2 := fun p q r t : Int => key p q r t 2 r rfl
  have e3 := fun p q r t : Int => key p q r t 3 t rfl
  have hi : ∀ p q : Int, (Op.equalIn 9999 3 (.int .i64 p) (.int .i64 q)).run Try.prog w = .ok (p == q) w := fun p q => run_equalIn_int w 9998 _ _ _ _ _ hq
  simp only [show List.range 4 = [0, 1, 2, 3] from rfl, Op.eqItems, Sem.run_bind, Nat.mul_one, e0, Result.andThen_ok, hi]
  by_cases h1 : a = a' <;> by_cases h2 : b = b' <;> by_cases h3 : c = c' <;> by_cases h4 : d = d' <;> simp [h1, h2, h3, h4, e1, e2, e3, hi]
end Go.Proofs.Ytnmpigedhpdenaa
