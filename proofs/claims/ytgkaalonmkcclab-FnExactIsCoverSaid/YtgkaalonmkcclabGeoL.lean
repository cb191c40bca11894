/-
  The laws' helpers on geographies (a struct of one slice of integers): the size, a copy, a comparison, marks; a geography that comes in.
-/
import Derived.Test.YtgkaalonmkcclabSchV
import Derived.Test.YtgkaalonmkcclabSchO
import Derived.Test.YtgkaalonmkcclabOwR
namespace Go.Proofs.Ytgkaalonmkcclab
open Go.ChangeShapes Go.WideShapes Go.ChangeAt Go.RowKit
open Go.Joins Go.Deep
set_option maxRecDepth 100000

/-- Block g is a slice. -/
def QB (w : World) (g : Nat) (y : Option Addr) (n c : Nat) : Prop := w.cell? ⟨g, 0, none⟩ = some (.slice y n c) ∧ w.frozen? ⟨g, 0, none⟩ = false ∧ g < w.heap.size
theorem QB.new (w : World) (y : Option Addr) (n c : Nat) (t : TypeId) : QB (w.alloc (.cells #[.slice y n c] t)) w.heap.size y n c := by
  have h := Wb.new w t #[.slice y n c]
  exact ⟨(h.read 0).trans rfl, h.free 0, h.inside⟩
theorem QB.below {w w' : World} {g : Nat} {y : Option Addr} {n c : Nat} (h : QB w g y n c) (hb : Below w.heap.size w w') : QB w' g y n c :=
  ⟨(hb.cell h.2.2).trans h.1, (hb.frozen (p := ⟨g, 0, none⟩) h.2.2).trans h.2.1, Nat.lt_of_lt_of_le h.2.2 hb.size⟩
theorem QB.grown {w w' : World} {g : Nat} {y : Option Addr} {n c : Nat} {r : Option Nat} (h : QB w g y n c) (hg : w.grownBy w' r) (hne : some g ≠ r) : QB w' g y n c := by
  have e := hg.block g h.2.2 hne
  exact ⟨(World.cell?_of_block (a := ⟨g, 0, none⟩) e).trans h.1, (World.frozen?_of_block (a := ⟨g, 0, none⟩) e).trans h.2.1, Nat.lt_of_lt_of_le h.2.2 hg.size⟩

theorem szGeo_any (y : Option Addr) (len cap : Nat) (left : Int) (w : World) (hl : 0 ≤ left) (h : left ≤ 1048576) (hm : len ≤ 9223372036854775807) :
    Calls Try.prog 32 #[.agg #[.slice y len cap], .int .i64 left] w fun e w' => e = .returned (.int .i64 (szZ left len)) ∧ Below w.heap.size w w' := by
  have hb := szZ_bd left len hl
  by_cases hn : szZ left len < 0
  · have e : Hid (szZ left len = -1) := by unfold Hid; omega
    go_enter Try.func32, Try.ntmps32
    go_wp2_with (go_at_call 95; refine (szIntS_any _ _ _ _ _ hl h hm).mono ?_; rintro e w1 ⟨rfl, rfl⟩)
    go_ret
    exact ⟨ret_int e.out.symm, (by repeat (first | exact Below.refl _ _ | assumption | refine Below.drew ?_ | refine below_drewN ?_ _ | refine Below.alloc' ?_ _ | (refine Below.setCell ?_ (by first | omega | (simp; done) | (simp; omega) | exact Below.size (by assumption) | exact Nat.le_trans (Below.size (by assumption)) (by simp)) _) | (refine Below.via' ?_ (by assumption)) | (refine Below.alloc ?_ (by first | omega | (simp; done) | (simp; omega) | exact Below.size (by assumption) | exact Nat.le_trans (Below.size (by assumption)) (by simp)) _) | (refine Below.via ?_ (by assumption) (by first | omega | (simp; done) | (simp; omega) | exact Below.size (by assumption) | exact Nat.le_trans (Below.size (by assumption)) (by simp)))))⟩
  · go_enter Try.func32, Try.ntmps32
    go_wp2_with (go_at_call 95; refine (szIntS_any _ _ _ _ _ hl h hm).mono ?_; rintro e w1 ⟨rfl, rfl⟩)
    go_ret
    exact ⟨rfl, (by repeat (first | exact Below.refl _ _ | assumption | refine Below.drew ?_ | refine below_drewN ?_ _ | refine Below.alloc' ?_ _ | (refine Below.setCell ?_ (by first | omega | (simp; done) | (simp; omega) | exact Below.size (by assumption) | exact Nat.le_trans (Below.size (by assumption)) (by simp)) _) | (refine Below.via' ?_ (by assumption)) | (refine Below.alloc ?_ (by first | omega | (simp; done) | (simp; omega) | exact Below.size (by assumption) | exact Nat.le_trans (Below.size (by assumption)) (by simp)) _) | (refine Below.via ?_ (by assumption) (by first | omega | (simp; done) | (simp; omega) | exact Below.size (by assumption) | exact Nat.le_trans (Below.size (by assumption)) (by simp)))))⟩

/-- A geography that the law has copied. -/
def QrPost (G : List Int) (w : World) (e : Ending) (w' : World) : Prop :=
  ∃ g, e = .returned (.agg #[.slice (some ⟨g, 0, none⟩) G.length G.length]) ∧ w'.ownsRow w.heap.size 3 1 (.slice (some ⟨g, 0, none⟩) G.length G.length) G.length (iC G) ∧ Below w.heap.size w w'
set_option maxHeartbeats 1000000 in
theorem toGeo_any (y : Option Addr) (cap : Nat) (G : List Int) (w : World) (hm : G.length ≤ 1048576) (hG : Rd w y (iC G)) :
    Calls Try.prog 35 #[.agg #[.slice y G.length cap]] w (QrPost G w) := by
  have hGh := Lib.hid hG
  clear hG
  go_enter Try.func35, Try.ntmps35
  go_wp2_with fail
  refine (toIntS_any _ _ _ _ hm (hGh.out.below (by exact (by repeat (first | exact Below.refl _ _ | assumption | refine Below.drew ?_ | refine below_drewN ?_ _ | refine Below.alloc' ?_ _ | (refine Below.setCell ?_ (by first | omega | (simp; done) | (simp; omega) | exact Below.size (by assumption) | exact Nat.le_trans (Below.size (by assumption)) (by simp)) _) | (refine Below.via' ?_ (by assumption)) | (refine Below.alloc ?_ (by first | omega | (simp; done) | (simp; omega) | exact Below.size (by assumption) | exact Nat.le_trans (Below.size (by assumption)) (by simp)) _) | (refine Below.via ?_ (by assumption) (by first | omega | (simp; done) | (simp; omega) | exact Below.size (by assumption) | exact Nat.le_trans (Below.size (by assumption)) (by simp)))))))).mono ?_
  rintro e w1 ⟨rfl, ho1, hb1⟩
  obtain ⟨hcl1, hfr1⟩ := bcell hb1
  have hz1 := hb1.size; (try simp at hz1); (try (have hly1 := Nat.lt_of_succ_le hz1)); (try (have hlx1 := Nat.lt_of_succ_lt hly1)); (try (have hlw1 := Nat.lt_of_succ_lt hlx1)); (try (have hle1 := Nat.le_of_lt hly1))
  have hoh := Lib.hid ho1
  clear ho1
  go_wp2
  refine bodyPost_ret (v := .agg #[.slice (some ⟨w.heap.size + 1 + 1 + 1, 0, none⟩) G.length G.length]) (by simp [results, Try.results35, go_sem, *]) rfl ⟨_, rfl, ?_, ?_⟩
  · have ho2 : w1.ownsRow (w.heap.size + 1 + 1 + 1) 3 1 (.slice (some ⟨w.heap.size + 1 + 1 + 1, 0, none⟩) G.length G.length) G.length (iC G) := by simpa using hoh.out
    refine own_more (base := w.heap.size + 1 + 1 + 1) ?_ (by omega)
    repeat (refine ownsRow_setCell_below ?_ (by simp; try omega) _)
    exact ho2
  · exact (by repeat (first | exact Below.refl _ _ | assumption | refine Below.drew ?_ | refine below_drewN ?_ _ | refine Below.alloc' ?_ _ | (refine Below.setCell ?_ (by first | omega | (simp; done) | (simp; omega) | exact Below.size (by assumption) | exact Nat.le_trans (Below.size (by assumption)) (by simp)) _) | (refine Below.via' ?_ (by assumption)) | (refine Below.alloc ?_ (by first | omega | (simp; done) | (simp; omega) | exact Below.size (by assumption) | exact Nat.le_trans (Below.size (by assumption)) (by simp)) _) | (refine Below.via ?_ (by assumption) (by first | omega | (simp; done) | (simp; omega) | exact Below.size (by assumption) | exact Nat.le_trans (Below.size (by assumption)) (by simp)))))

theorem eqGeo_any (x y : Option Addr) (c1 c2 : Nat) (G : List Int) (w : World) (hm : G.length ≤ 9223372036854775807) (hx : Rd w x (iC G)) (hy : Rd w y (iC G)) :
    Calls Try.prog 39 #[.agg #[.slice x G.length c1], .agg #[.slice y G.length c2]] w fun e w' => e = .returned (.bool true) ∧ Below w.heap.size w w' := by
  have hxh := Lib.hid hx
  have hyh := Lib.hid hy
  clear hx hy
  go_enter Try.func39, Try.ntmps39
  go_wp2_with (go_at_call 16; refine (eqIntS_any _ _ _ _ _ _ hm (hxh.out.below (by exact (by repeat (first | exact Below.refl _ _ | assumption | refine Below.drew ?_ | refine below_drewN ?_ _ | refine Below.alloc' ?_ _ | (refine Below.setCell ?_ (by first | omega | (simp; done) | (simp; omega) | exact Below.size (by assumption) | exact Nat.le_trans (Below.size (by assumption)) (by simp)) _) | (refine Below.via' ?_ (by assumption)) | (refine Below.alloc ?_ (by first | omega | (simp; done) | (simp; omega) | exact Below.size (by assumption) | exact Nat.le_trans (Below.size (by assumption)) (by simp)) _) | (refine Below.via ?_ (by assumption) (by first | omega | (simp; done) | (simp; omega) | exact Below.size (by assumption) | exact Nat.le_trans (Below.size (by assumption)) (by simp))))))) (hyh.out.below (by exact (by repeat (first | exact Below.refl _ _ | assumption | refine Below.drew ?_ | refine below_drewN ?_ _ | refine Below.alloc' ?_ _ | (refine Below.setCell ?_ (by first | omega | (simp; done) | (simp; omega) | exact Below.size (by assumption) | exact Nat.le_trans (Below.size (by assumption)) (by simp)) _) | (refine Below.via' ?_ (by assumption)) | (refine Below.alloc ?_ (by first | omega | (simp; done) | (simp; omega) | exact Below.size (by assumption) | exact Nat.le_trans (Below.size (by assumption)) (by simp)) _) | (refine Below.via ?_ (by assumption) (by first | omega | (simp; done) | (simp; omega) | exact Below.size (by assumption) | exact Nat.le_trans (Below.size (by assumption)) (by simp)))))))).mono ?_; rintro e w1 ⟨rfl, hb1⟩; obtain ⟨hcl1, hfr1⟩ := bcell hb1; have hz1 := hb1.size; (try simp at hz1); (try (have hly1 := Nat.lt_of_succ_le hz1)); (try (have hlx1 := Nat.lt_of_succ_lt hly1)); (try (have hlw1 := Nat.lt_of_succ_lt hlx1)); (try (have hle1 := Nat.le_of_lt hly1)); (try (have hya1 : w.heap.size < w1.heap.size := by omega)); (try (have hyb1 : w.heap.size + 1 < w1.heap.size := by omega)); (try (have hyc1 : w.heap.size + 1 + 1 < w1.heap.size := by omega)); (try (have hyd1 : wa.heap.size < w1.heap.size := by omega)))
  go_ret
  exact ⟨rfl, (by repeat (first | exact Below.refl _ _ | assumption | refine Below.drew ?_ | refine below_drewN ?_ _ | refine Below.alloc' ?_ _ | (refine Below.setCell ?_ (by first | omega | (simp; done) | (simp; omega) | exact Below.size (by assumption) | exact Nat.le_trans (Below.size (by assumption)) (by simp)) _) | (refine Below.via' ?_ (by assumption)) | (refine Below.alloc ?_ (by first | omega | (simp; done) | (simp; omega) | exact Below.size (by assumption) | exact Nat.le_trans (Below.size (by assumption)) (by simp)) _) | (refine Below.via ?_ (by assumption) (by first | omega | (simp; done) | (simp; omega) | exact Below.size (by assumption) | exact Nat.le_trans (Below.size (by assumption)) (by simp)))))⟩
set_option maxHeartbeats 1000000 in
theorem markGeo_any (x : Option Addr) (n cap : Nat) (k : Int) (base : Nat) (xs : List Value) (w : World) (hk : 0 ≤ k) (hk2 : k ≤ 1000000000000) (hn : n ≤ 1048576) (hown : w.ownsRow base 3 1 (.slice x n cap) n xs) :
    Calls Try.prog 40 #[.agg #[.slice x n cap], .int .i64 k] w fun e w' => e = .returned (.int .i64 (k + n)) ∧ w'.ownsRow base 3 1 (.slice x n cap) n (iC (mkL k n)) ∧ w.grownBy w' (Value.slice x n cap).ownBlock := by
  have hoh := Lib.hid (hown.alloc (.cells #[.slice x n cap] 71))
  have hoh2 := Lib.hid hown
  clear hown
  go_enter Try.func40, Try.ntmps40
  go_wp2_with fail
  refine (markIntS_any _ _ _ _ _ _ _ hk hk2 hn hoh.out).mono ?_
  rintro e w1 ⟨rfl, ho1, hg⟩
  have ho1 := Lib.hid ho1
  go_wp2
  go_ret
  exact ⟨rfl, ho1.out, (World.grownBy_alloc w _ _).trans hg⟩

theorem cellsGeo : Try.prog.cellsOf 64 = 1 := by kernel_rfl
theorem open_agg1 {H : Type} {enc : TypeId × Value → H} {P : Program} {w : World} {base : Nat} {spare : Nat → Bool} {held : Bool} {r : Reach} {b0 : Nat} {t : TypeId} {f0 : Field} {v : Value} {d : DataW H} {p : List MemPlace} (hs : P.underlying t = some (.struct #[f0])) (hone : oneCellFields P #[f0] = true) (hC : P.cellsOf t = 1)
    (hv : Value.okWide P w r b0 t v) (h : DataW.Trod enc P w base spare held t v d p) :
    ∃ (v0 : Value) (y0 : DataW H × List MemPlace) (n : Nat), v = .agg #[v0] ∧ d = .agg [y0.1] ∧ p = y0.2 ∧ DataW.trod enc P w base spare held n f0.type [v0] = some y0 := by
  obtain ⟨cs, rfl, hsz⟩ := okWide_struct hs hv
  obtain ⟨c0, rfl⟩ : ∃ c0, cs = #[c0] := by
    obtain ⟨l⟩ := cs
    match l, hsz.trans hC with
    | [c0], _ => exact ⟨c0, rfl⟩
  obtain ⟨fuel, hf⟩ := h
  obtain ⟨xs, n, _, hx, hl, hlen, hf⟩ := DataW.trod_struct hs hf
  obtain ⟨o0, k0⟩ := hone_of hone 0 f0 rfl
  match xs, hlen with
  | [y0], _ =>
    have h0 := hf 0 f0 rfl
    simp at hx h0
    exact ⟨c0, y0, n, rfl, hx.1, hx.2, by simpa [Value.cells, o0, k0] using h0⟩
/-- A geography that comes in. -/
theorem open_geo {H : Type} {enc : TypeId × Value → H} {W : World} {base : Nat} {v : Value} {d : DataW H} {p : List MemPlace} (hv : Value.okWide Try.prog W .any base 64 v)
    (h : DataW.Trod enc Try.prog W 0 (fun _ => true) true 64 v d p) : ∃ x cap L, v = .agg #[.slice x L.length cap] ∧ L.length ≤ 9223372036854775807 ∧ Hid (∀ n ∈ L, IsI64 n) ∧ Hid (Rd W x (iC L)) := by
  obtain ⟨c0, y0, m, rfl, rfl, rfl, hy0⟩ := open_agg1 Try.underlying64 (by kernel_rfl) cellsGeo hv h
  obtain ⟨x, cap, L, hcs, r⟩ := open_intC hy0
  simp at hcs
  subst hcs
  exact ⟨x, cap, L, rfl, r⟩
end Go.Proofs.Ytgkaalonmkcclab
