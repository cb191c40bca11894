import Derived.Test.YtgkaalonmkcclabPRcB
import Derived.Test.YtgkaalonmkcclabShelf
import Derived.Laws.CopyOwn
import Derived.Test.YtgkaalonmkcclabSchN
import Derived.Test.YtgkaalonmkcclabApp
import Derived.Deep.AppendLies
import Derived.Deep.RegionLaw
import Derived.Maps.AppendAt
import Derived.WalkMore
namespace Go.Proofs.Ytgkaalonmkcclab
open Go.RowKit Go.Shelf
set_option maxRecDepth 100000

/-- An edit in a row of its own, handed back. -/
def WlPost (n : Nat) (L : List Int) (w : World) (e : Ending) (w' : World) : Prop := ∃ u c, e = .returned (.agg #[.slice u n c]) ∧ w'.ownsRow w.heap.size 3 1 (.slice u n c) n (iC L) ∧ Below w.heap.size w w'
set_option maxHeartbeats 2000000 in
theorem withLevel_any (z : Option Addr) (cz : Nat) (S : List (ByteArray × Int)) (E : List Int) (i l : Nat) (w : World) (hs : schB S = true) (hE : edB S E = true) (hi : i < S.length) (hl : (l : Int) < lvA S i) (hz : Rd w z (iC E)) (hcz : E.length ≤ cz) :
    Calls Try.prog 160 #[.agg #[.slice z E.length cz], .int .i64 i, .int .i64 l] w (WlPost E.length (wlL E i l) w) := by
  have hlE := ed_len hE
  have hl6 := (schB_len hs).2
  obtain ⟨nm, lv, xv, hSi, hEi, x1, x2, y1, y2, x3⟩ := ed_at hs hE hi
  obtain ⟨bl, off, xv', rfl, hbl, hEi2, hc0⟩ := hz.int (i := i) (by omega)
  obtain rfl := Option.some.inj (hEi2.symm.trans hEi)
  obtain ⟨p1, p2⟩ := pw_bd hl
  have hp255 := flZ_bd (lvA_bd hs hi)
  have hor := or_jo (x := xv') (y := 2 ^ l) (by omega) (by omega) (by omega) (by omega)
  have hww : wrap64 (2 ^ l : Int) = 2 ^ l := IntWalk.wrap64_in _ (by omega)
  have hst := Lib.hid (wl_at l hEi)
  have hEih := Lib.hid hEi
  have hlE6 : E.length ≤ 6 := by omega
  have hl7 : l ≤ 7 := by have := (lvA_bd hs hi).2; omega
  have hil : i < E.length := by omega
  have hi' : (i : Int) < (E.length : Int) := by omega
  have hi0 : (0 : Int) ≤ (i : Int) := by omega
  have hl0 : (0 : Int) ≤ (l : Int) := by omega
  have hq := Lib.hid (QB.new w (some ⟨bl, off, none⟩) E.length cz 90)
  have hb0 : Below w.heap.size w ((w.alloc (.cells #[.slice (some ⟨bl, off, none⟩) E.length cz] 90)).alloc (.cells #[.slice none 0 0] 90)) := (by repeat (first | exact Below.refl _ _ | assumption | refine Below.drew ?_ | refine below_drewN ?_ _ | refine Below.alloc' ?_ _ | (refine Below.setCell ?_ (by first | omega | (simp; done) | (simp; omega) | exact Below.size (by assumption) | exact Nat.le_trans (Below.size (by assumption)) (by simp)) _) | (refine Below.via' ?_ (by assumption)) | (refine Below.alloc ?_ (by first | omega | (simp; done) | (simp; omega) | exact Below.size (by assumption) | exact Nat.le_trans (Below.size (by assumption)) (by simp)) _) | (refine Below.via ?_ (by assumption) (by first | omega | (simp; done) | (simp; omega) | exact Below.size (by assumption) | exact Nat.le_trans (Below.size (by assumption)) (by simp)))))
  have hb01 : Below (w.alloc (.cells #[.slice (some ⟨bl, off, none⟩) E.length cz] 90)).heap.size (w.alloc (.cells #[.slice (some ⟨bl, off, none⟩) E.length cz] 90)) ((w.alloc (.cells #[.slice (some ⟨bl, off, none⟩) E.length cz] 90)).alloc (.cells #[.slice none 0 0] 90)) := (Below.refl _ _).alloc (Nat.le_refl _) _
  have hRes : Wb ((w.alloc (.cells #[.slice (some ⟨bl, off, none⟩) E.length cz] 90)).alloc (.cells #[.slice none 0 0] 90)) (w.heap.size + 1) 90 #[.slice none 0 0] := by
    have h0 := Wb.new (w.alloc (.cells #[.slice (some ⟨bl, off, none⟩) E.length cz] 90)) 90 #[.slice none 0 0]
    rwa [World.size_alloc] at h0
  have hq1 := hq.out.below hb01
  obtain ⟨W1, hW1⟩ : ∃ W1, (w.alloc (.cells #[.slice (some ⟨bl, off, none⟩) E.length cz] 90)).alloc (.cells #[.slice none 0 0] 90) = W1 := ⟨_, rfl⟩
  rw [hW1] at hb0 hRes hq1
  have hzh := Lib.hid (hz.below hb0)
  have hs1 : W1.heap.size = w.heap.size + 2 := by rw [← hW1]; simp
  clear hEi2 hEi hSi hc0 hs hE hz hb01 hq hlE
  obtain ⟨ka, kb, kc⟩ := hq1
  have hW1h := Lib.hid hW1
  clear hW1
  go_enter Try.func160, Try.ntmps160
  go_wp2_with fail
  rw [hW1h.out]
  refine (cloneInt_any _ cz E W1 (by omega) hcz (by intro h; cases h) hzh.out).mono ?_
  rintro e w3 ⟨u3, rfl, ho3, hb3⟩
  obtain ⟨g3, c3, rfl⟩ := own_some ho3 (by omega)
  have hlow3 := own_lt ho3
  obtain ⟨u0, hu0, f0⟩ := own_cell ho3 (j := i) (by omega)
  obtain rfl : u0 = .int .i64 xv' := Option.some.inj (hu0.symm.trans (iC_at hEih.out))
  have k2 := ho3.frozenAt i
  have hsto := Lib.hid (ho3.stored i (.int .i64 (joI xv' (2 ^ l)))).1
  have R3 := hRes.kept hb3
  have r1 := R3.read 0
  have r2 := R3.free 0
  have r3 := R3.inside
  have hB3 : Below w.heap.size w w3 := hb0.trans (hb3.mono hb0.size)
  have hR3h := Lib.hid R3
  have hne : w.heap.size + 1 ≠ g3 := by omega
  clear hu0 ho3 R3 hb3
  go_wp2
  go_region
  all_goals
    have hwl : Hid ((iC E).set i (.int .i64 (joI xv' (2 ^ l))) = iC (wlL E i l)) := by unfold Hid; rw [hst.out]; unfold iC; rw [List.map_set]
    have hval : bits .or .i64 xv' (wrap64 (2 ^ min l 64)) = joI xv' (2 ^ l) := by rw [show min l 64 = l by omega, hww, hor]
    go_wp2_with fail
    try rw [hval]
    refine bodyPost_ret (v := .agg #[.slice (some ⟨g3, 0, none⟩) E.length c3]) (by simp [results, Try.results160, go_sem, *]) rfl ⟨_, _, rfl, ?_, ?_⟩
    · have h0 := hsto.out
      rw [hwl.out] at h0
      exact (own_more (h0.kept (grownBy_setCell' _ _ _) (.inr (fun e => hne (by injection e with e; exact e.symm)))) hb0.size).drew
    · exact Below.drew ((hB3.setCell (p := ⟨g3, i, none⟩) (by show w.heap.size ≤ g3; omega) _).setCell (p := ⟨w.heap.size + 1, 0, none⟩) (by show w.heap.size ≤ w.heap.size + 1; omega) _)
/-- A row that begins with ones. -/
def onL (n m : Nat) : List Int := List.replicate n 1 ++ List.replicate (m - n) 0
theorem on_len {n m : Nat} (h : n ≤ m) : (onL n m).length = m := by unfold onL; simp; omega
theorem made_on (n : Nat) : (madeCells (Value.int .i64 0).cells (n * 1)).toList = iC (onL 0 n) := by
  apply List.ext_getElem?
  intro j
  unfold iC onL
  rw [List.replicate_zero, List.nil_append, Nat.sub_zero, List.map_replicate, List.getElem?_replicate]
  by_cases h : j < n
  · simp [madeCells, Value.cells, h, Nat.mod_one]
  · simp [madeCells, Value.cells, h]
theorem on_full (m : Nat) : onL m m = List.replicate m 1 := by unfold onL; simp
theorem on_at {n m j : Nat} (h : j < n) : (onL n m)[j]? = some 1 := by
  unfold onL
  rw [List.getElem?_append_left (by rw [List.length_replicate]; exact h), List.getElem?_replicate, if_pos h]
theorem on_cells (n m : Nat) : iC (onL n m) = List.replicate n (Value.int .i64 1) ++ List.replicate (m - n) (Value.int .i64 0) := by unfold iC onL; rw [List.map_append, List.map_replicate, List.map_replicate]
theorem on_splice {n k m : Nat} (h : n + k ≤ m) : splice (iC (onL n m)) n (iC (List.replicate k 1)) = iC (onL (n + k) m) := by
  have e1 : (List.replicate n (Value.int .i64 1) ++ List.replicate (m - n) (Value.int .i64 0)).take n = List.replicate n (Value.int .i64 1) := by rw [List.take_append_of_le_length (by simp), List.take_of_length_le (by simp)]
  have e2 : (List.replicate n (Value.int .i64 1) ++ List.replicate (m - n) (Value.int .i64 0)).drop (n + k) = List.replicate (m - (n + k)) (Value.int .i64 0) := by
    rw [List.drop_append, List.drop_eq_nil_of_le (by simp), List.length_replicate, List.nil_append, List.drop_replicate]
    congr 1
    omega
  have e3 : iC (List.replicate k 1) = List.replicate k (Value.int .i64 1) := by unfold iC; rw [List.map_replicate]
  unfold splice
  rw [e3, List.length_replicate, on_cells, on_cells, e1, e2, ← List.append_assoc, List.replicate_append_replicate]
theorem own_heapL {w : World} {base e g n : Nat} {xs : List Value} (h : w.ownsRow base e 1 (.slice (some ⟨g, 0, none⟩) n n) n xs) : w.heap[g]? = some (.cells xs.toArray e (0, 0)) := by
  rcases h.2 with ⟨h1, _⟩ | ⟨g', cap, cur, hv, _, hg, _, _, hs, ht⟩
  · cases h1
  · injection hv with h1 h2 h3
    injection h1 with h1
    injection h1 with h1
    subst h1 h3
    rw [hg, ← ht]
    congr 2
    rw [List.take_of_length_le (by rw [Array.length_toList, hs]; exact Nat.le_refl _)]
theorem own_of_heapL {w : World} {base e g n : Nat} {xs : List Value} (hg : w.heap[g]? = some (.cells xs.toArray e (0, 0))) (hb : base ≤ g) (hl : xs.length = n) (hm : n ≤ maxLen) : w.ownsRow base e 1 (.slice (some ⟨g, 0, none⟩) n n) n xs :=
  ⟨by omega, .inr ⟨g, n, xs.toArray, rfl, hb, hg, Nat.le_refl _, hm, by simp [hl], by simp [← hl]⟩⟩
end Go.Proofs.Ytgkaalonmkcclab

namespace Go.Proofs.Ytgkaalonmkcclab
open Go.RowKit Go.Shelf
set_option maxRecDepth 100000

/-- The search in memory: its schema, the lists of values that pass, the eliminated variable, what was found. -/
def SrI (S : List (ByteArray × Int)) (M : List (List Int)) (N : Nat) (v : Int) (x : Option Addr) (c lo : Nat) (w : World) (g : Nat) (u : Value) : Prop :=
  ∃ (y : Option Addr) (d : Nat) (T : List PR), Wb w g 146 #[.slice x S.length c, .slice y T.length d, .int .i64 v, u] ∧ w.ownsRow lo 24 1 (.slice y T.length d) T.length (eC T) ∧ (∀ q ∈ T, w.ownsRow lo 3 1 q.v q.L.length (iC q.L)) ∧ eM T = psL S M N
section
variable {S : List (ByteArray × Int)} {M : List (List Int)} {N : Nat} {v : Int} {x : Option Addr} {c lo g : Nat} {w w' : World} {u : Value}
theorem SrI.k1 (h : SrI S M N v x c lo w g u) (k : KxT 90 90 w w') : SrI S M N v x c lo w' g u := by
  obtain ⟨y, d, T, h1, h2, h3, h4⟩ := h
  exact ⟨y, d, T, (k.2 g _ _ _ h1 (by decide) (by decide)).trans h1, k.own h2 (by decide) (by decide), fun q hq => k.own (h3 q hq) (by decide) (by decide), h4⟩
theorem SrI.below (h : SrI S M N v x c lo w g u) (hb : Below w.heap.size w w') : SrI S M N v x c lo w' g u := h.k1 (KxT.of_below hb)
theorem SrI.inside (h : SrI S M N v x c lo w g u) : g < w.heap.size := by
  obtain ⟨y, d, T, h1, _⟩ := h
  exact h1.inside
theorem SrI.blk (h : SrI S M N v x c lo w g u) : ∃ (cs : Array Value) (fz : Nat × Nat), w.heap[g]? = some (Obj.cells cs 146 fz) := by
  obtain ⟨y, d, T, h1, _⟩ := h
  exact ⟨_, _, h1⟩
theorem SrI.put (h : SrI S M N v x c lo w g u) (u' : Value) : SrI S M N v x c lo (w.setCell ⟨g, 3, none⟩ u') g u' := by
  obtain ⟨y, d, T, h1, h2, h3, h4⟩ := h
  have k : KxT 146 146 w (w.setCell ⟨g, 3, none⟩ u') := KxT.of_set (p := ⟨g, 3, none⟩) h1 u'
  exact ⟨y, d, T, h1.put 3 u', k.own h2 (by decide) (by decide), fun q hq => k.own (h3 q hq) (by decide) (by decide), h4⟩
end
theorem ed_iin {S : List (ByteArray × Int)} {E : List Int} {w : World} {z : Option Addr} (hs : schB S = true) (hE : edB S E = true) (hr : Rd w z (iC E)) : IIn w z E := by
  have hl := ed_len hE
  have h6 := (schB_len hs).2
  refine ⟨by omega, fun n hn => ?_, hr⟩
  obtain ⟨j, hj, e⟩ := List.getElem_of_mem hn
  obtain ⟨nm, lv, y, a, b, h1, h2, _, _, h3⟩ := ed_at hs hE (i := j) (by omega)
  rw [List.getElem?_eq_getElem hj, e] at b
  cases b
  unfold IsI64
  omega
set_option maxHeartbeats 2000000 in
theorem free_any (g : Nat) (x z : Option Addr) (c cz lo : Nat) (S : List (ByteArray × Int)) (M : List (List Int)) (N : Nat) (v : Int) (u : Value) (E : List Int) (w : World) (hN2 : N ≤ 262144) (hs : schB S = true) (hE : edB S E = true) (hI : SrI S M N v x c lo w g u) (hz : Rd w z (iC E)) :
    Calls Try.prog 156 #[.pointer (some ⟨g, 0, none⟩), .slice z E.length cz] w fun e w' => e = .returned (.bool (imV S (psN S M N) E)) ∧ Below w.heap.size w w' := by
  obtain ⟨y, d, T, hW, hrow, hin, hM⟩ := hI
  have hTl : T.length ≤ 1048576 := by have h0 := psL_len S M N; rw [← hM, eM_len] at h0; omega
  have hTh := Lib.hid (show EIn w y T from ⟨hTl, ps_iin hs hM hin, Rd.of_own hrow⟩)
  have hMh := Lib.hid hM
  have hsh := Lib.hid hs
  have hEh := Lib.hid hE
  have hzh := Lib.hid (ed_iin hs hE hz)
  have k1 := (hW.read 1).trans rfl
  have k2 := hW.inside
  clear hrow hin hM hs hE hz hW
  go_enter Try.func156, Try.ntmps156
  go_wp2
  go_loopw [12] (fun c2 wr => ∃ i : Nat, i ≤ T.length ∧ c2 = .int .i64 i ∧ Hid (∀ j, j < i → ∃ V, (eM T)[j]? = some V ∧ fsB E V = false) ∧ Below w.heap.size w wr) (fun c2 _ => T.length - (intOf c2).toNat)
  case atStart => exact ⟨0, by omega, rfl, (fun j hj => absurd hj (by omega)), Below.refl _ _⟩
  case round =>
    obtain ⟨i, hi, rfl, hall, hBr⟩ := hrel
    by_cases hlt : i < T.length
    · obtain ⟨bl, off, q, rfl, hbl, hQq, hc0⟩ := (hTh.out.below hBr).2.2.ed hlt
      have hqi := Lib.hid ((hTh.out.2.1 q (List.mem_of_getElem? hQq)).below hBr)
      have hqe := Lib.hid (eM_at hQq)
      have hk : ∃ k : Nat, k ∈ psN S M N ∧ q.L = atL S (k : Int) := by
        have h1 := hqe.out
        rw [hMh.out] at h1
        unfold psL at h1
        obtain ⟨k, hk, e⟩ := List.mem_map.1 (List.mem_of_getElem? h1)
        exact ⟨k, hk, e.symm⟩
      obtain ⟨k, hkm, hkL⟩ := hk
      have hfi := Lib.hid (show Fine E q.L by rw [hkL]; exact fine_of hsh.out hEh.out (at_fitE hsh.out (by omega)))
      have hkmh := Lib.hid hkm
      have hkLh := Lib.hid hkL
      have hlt' : (i : Int) < (T.length : Int) := by omega
      clear hQq hkm hkL
      cases hh : fsB E q.L
      · have hhh := Lib.hid hh
        go_wp2_with fail
        refine (eFails_any _ _ _ _ E q.L _ hfi.out (hzh.out.below hBr) hqi.out).mono ?_
        rintro e w3 ⟨rfl, hb3⟩
        rw [hh]
        go_wp2
        go_roundw
        case rel =>
          refine ⟨i + 1, by omega, by go_num, fun j hj => ?_, (by repeat (first | exact Below.refl _ _ | assumption | refine Below.drew ?_ | refine below_drewN ?_ _ | refine Below.alloc' ?_ _ | (refine Below.setCell ?_ (by first | omega | (simp; done) | (simp; omega) | exact Below.size (by assumption) | exact Nat.le_trans (Below.size (by assumption)) (by simp)) _) | (refine Below.via' ?_ (by assumption)) | (refine Below.alloc ?_ (by first | omega | (simp; done) | (simp; omega) | exact Below.size (by assumption) | exact Nat.le_trans (Below.size (by assumption)) (by simp)) _) | (refine Below.via ?_ (by assumption) (by first | omega | (simp; done) | (simp; omega) | exact Below.size (by assumption) | exact Nat.le_trans (Below.size (by assumption)) (by simp)))))⟩
          rcases Nat.lt_or_ge j i with hj2 | hj2
          · exact hall.out j hj2
          · obtain rfl : j = i := by omega
            exact ⟨_, hqe.out, hhh.out⟩
        case measure => simp [intOf]; omega
      · have hv := Lib.hid (imV_bad (S := S) (E := E) hkmh.out (by rw [← hkLh.out]; exact hh))
        go_wp2_with fail
        refine (eFails_any _ _ _ _ E q.L _ hfi.out (hzh.out.below hBr) hqi.out).mono ?_
        rintro e w3 ⟨rfl, hb3⟩
        rw [hh]
        go_wp2
        go_ret
        exact ⟨ret_bool hv.out.symm, (by repeat (first | exact Below.refl _ _ | assumption | refine Below.drew ?_ | refine below_drewN ?_ _ | refine Below.alloc' ?_ _ | (refine Below.setCell ?_ (by first | omega | (simp; done) | (simp; omega) | exact Below.size (by assumption) | exact Nat.le_trans (Below.size (by assumption)) (by simp)) _) | (refine Below.via' ?_ (by assumption)) | (refine Below.alloc ?_ (by first | omega | (simp; done) | (simp; omega) | exact Below.size (by assumption) | exact Nat.le_trans (Below.size (by assumption)) (by simp)) _) | (refine Below.via ?_ (by assumption) (by first | omega | (simp; done) | (simp; omega) | exact Below.size (by assumption) | exact Nat.le_trans (Below.size (by assumption)) (by simp)))))⟩
    · have hij : i = T.length := by omega
      subst hij
      have hv : Hid (imV S (psN S M N) E = true) := by
        refine imV_all fun k hk => ?_
        have h1 : atL S (k : Int) ∈ psL S M N := List.mem_map.2 ⟨k, hk, rfl⟩
        rw [← hMh.out] at h1
        obtain ⟨j, hj, e⟩ := List.getElem_of_mem h1
        obtain ⟨V, h2, h3⟩ := hall.out j (by rw [eM_len] at hj; exact hj)
        rw [List.getElem?_eq_getElem hj, e] at h2
        cases h2
        exact h3
      clear hall
      go_wp2
      go_ret
      exact ⟨ret_bool hv.out.symm, (by repeat (first | exact Below.refl _ _ | assumption | refine Below.drew ?_ | refine below_drewN ?_ _ | refine Below.alloc' ?_ _ | (refine Below.setCell ?_ (by first | omega | (simp; done) | (simp; omega) | exact Below.size (by assumption) | exact Nat.le_trans (Below.size (by assumption)) (by simp)) _) | (refine Below.via' ?_ (by assumption)) | (refine Below.alloc ?_ (by first | omega | (simp; done) | (simp; omega) | exact Below.size (by assumption) | exact Nat.le_trans (Below.size (by assumption)) (by simp)) _) | (refine Below.via ?_ (by assumption) (by first | omega | (simp; done) | (simp; omega) | exact Below.size (by assumption) | exact Nat.le_trans (Below.size (by assumption)) (by simp)))))⟩
theorem lv_at {S : List (ByteArray × Int)} {i : Nat} {nm : ByteArray} {lv : Int} (h : S[i]? = some (nm, lv)) : lv = lvA S i := by
  have hi := (List.getElem?_eq_some_iff.1 h).1
  have h1 := at_nm hi
  rw [h] at h1
  injection h1 with h1
  exact (Prod.mk.inj h1).2
set_option maxHeartbeats 4000000 in
theorem grows_any (g : Nat) (x z : Option Addr) (c cz lo : Nat) (S : List (ByteArray × Int)) (M : List (List Int)) (N : Nat) (v : Int) (u : Value) (E : List Int) (W0 w : World) (hN2 : N ≤ 262144) (hs : schB S = true) (hE : edB S E = true) (hS : SIn W0 x c S) (hB : Below W0.heap.size W0 w) (hI : SrI S M N v x c lo w g u) (hz : Rd w z (iC E)) (hcz : E.length ≤ cz) (hnz : z = none → cz = 0) :
    Calls Try.prog 157 #[.pointer (some ⟨g, 0, none⟩), .slice z E.length cz] w fun e w' => e = .returned (.bool (grB S (psN S M N) E)) ∧ Below w.heap.size w w' := by
  obtain ⟨b0, off0, rfl, hb0, hcs⟩ := sin_box hS hs
  have hlE := Lib.hid (ed_len hE)
  have hl6 := (schB_len hs).2
  have hE6 : E.length ≤ 6 := by have := hlE.out; omega
  have hcsh := Lib.hid hcs
  have hIh := Lib.hid hI
  have hBh := Lib.hid hB
  have hsh := Lib.hid hs
  have hEh := Lib.hid hE
  have hzh := Lib.hid (ed_iin hs hE hz)
  have hnzh := Lib.hid hnz
  have hBs := hB.size
  clear hcs hI hB hs hE hz hS hnz
  go_enter Try.func157, Try.ntmps157
  go_wp2
  go_loopw [10] (fun c2 wr => ∃ i : Nat, i ≤ E.length ∧ c2 = .int .i64 i ∧ Hid (∀ j, j < i → grI S (psN S M N) E j = false) ∧ Below w.heap.size w wr) (fun c2 _ => E.length - (intOf c2).toNat)
  case atStart => exact ⟨0, by omega, rfl, (fun j hj => absurd hj (by omega)), Below.refl _ _⟩
  case round =>
    obtain ⟨i, hi, rfl, hall, hBr⟩ := hrel
    by_cases hlt : i < E.length
    · have hiS : i < S.length := by have := hlE.out; omega
      obtain ⟨l1, l2⟩ := lvA_bd hsh.out hiS
      have hlt' : (i : Int) < (E.length : Int) := by omega
      have hiS' : (i : Int) < (S.length : Int) := by omega
      have hi0 : (0 : Int) ≤ (i : Int) := by omega
      go_wp2
      go_loopw [6] (fun c2 wx => ∃ l : Nat, (l : Int) ≤ lvA S i ∧ c2 = .int .i64 l ∧ Hid (∀ m : Nat, m < l → grA S (psN S M N) E i m = false) ∧ Below w.heap.size w wx) (fun c2 _ => (lvA S i).toNat - (intOf c2).toNat)
      case atStart => exact ⟨0, by omega, rfl, (fun j hj => absurd hj (by omega)), hBr⟩
      case round =>
        clear hBr
        obtain ⟨l, hl, rfl, hin, hBx⟩ := hrel
        obtain ⟨wx, rfl⟩ : ∃ q : World, q = wr := ⟨_, rfl⟩
        have hIx := Lib.hid (hIh.out.below hBx)
        have hzx := Lib.hid (hzh.out.below hBx)
        obtain ⟨y, d, T, hW, -, -, -⟩ := hIx.out
        have ka := (hW.read 0).trans rfl
        have kb := hW.inside
        have hBW : Below W0.heap.size W0 wx := hBh.out.trans (hBx.mono hBs)
        obtain ⟨s0, s1⟩ := hcsh.out i hiS
        have hc0 := (hBW.cell (p := ⟨b0, off0 + i * 2, none⟩) hb0).trans s0
        have hc1 := (hBW.cell (p := ⟨b0, off0 + i * 2 + 1, none⟩) hb0).trans s1
        have hbx : b0 < wx.heap.size := by have := hBW.size; omega
        clear hW s0 s1
        by_cases hll : (l : Int) < lvA S i
        · obtain ⟨nm, lv, xv, hSi, hEi, x1, x2, y1, y2, x3⟩ := ed_at hsh.out hEh.out hiS
          obtain ⟨bl2, off2, xv', rfl, hbl2, hEi2, hc2⟩ := hzx.out.2.2.int (i := i) hlt
          obtain rfl := Option.some.inj (hEi2.symm.trans hEi)
          clear hEi2
          have hlv := lv_at hSi
          have hl7 : l ≤ 7 := by omega
          have hsv := shr_one (x := xv') (by omega) (by omega) l
          have hwu : IntKind.u64.wrap (l : Int) = l := by rw [show IntKind.u64.wrap (l : Int) = (l : Int) % 18446744073709551616 by simp [IntKind.wrap, IntKind.bits, IntKind.signed]]; omega
          have hst := Lib.hid (wl_at l hEi)
          have hge := Lib.hid (hEi)
          have hl0 : (0 : Int) ≤ (l : Int) := by omega
          clear hSi hlv
          cases hh : hsB xv' (l : Int)
          · rw [hh] at hsv
            have hq : (bits .and .i64 (xv' / 2 ^ l) 1 == 1) = false := by rw [hsv]; rfl
            have hgr := Lib.hid (grA_not (S := S) (P := psN S M N) hge.out hh)
            have hwe := Lib.hid (wl_ed hsh.out hEh.out hiS hll)
            obtain ⟨p1, p2⟩ := pw_bd hll
            have hp255 := flZ_bd (lvA_bd hsh.out hiS)
            have hor := or_jo (x := xv') (y := 2 ^ l) (by omega) (by omega) (by omega) (by omega)
            have hww : wrap64 (2 ^ l : Int) = 2 ^ l := IntWalk.wrap64_in _ (by omega)
            replace hsv := Lib.hid hsv
            replace hEi := Lib.hid hEi
            go_wp2_with fail
            refine (l1Own_any _ cz E _ (by omega) hcz (by intro h; cases h) hzx.out.2.2).mono ?_
            rintro e w3 ⟨u3, rfl, ho3, hb3⟩
            obtain ⟨g3, c3, rfl⟩ := own_some ho3 (by omega)
            have hlow3 := own_lt ho3
            obtain ⟨u0, hu0, f0⟩ := own_cell ho3 (j := i) (by omega)
            obtain rfl : u0 = .int .i64 xv' := Option.some.inj (hu0.symm.trans (iC_at hEi.out))
            have k2 := ho3.frozenAt i
            have hsto := Lib.hid (ho3.stored i (.int .i64 (joI xv' (2 ^ l)))).1
            have hb4 : Below wx.heap.size wx (w3.setCell ⟨g3, i, none⟩ (.int .i64 (joI xv' (2 ^ l)))) := hb3.setCell (p := ⟨g3, i, none⟩) hlow3.1 _
            have hI4 := Lib.hid (hIx.out.below hb4)
            have hB4 : Below w.heap.size w (w3.setCell ⟨g3, i, none⟩ (.int .i64 (joI xv' (2 ^ l)))) := hBx.trans (hb4.mono hBx.size)
            have hwl : Hid ((iC E).set i (.int .i64 (joI xv' (2 ^ l))) = iC (wlL E i l)) := by unfold Hid; rw [hst.out]; unfold iC; rw [List.map_set]
            have hR4 : Hid (Rd (w3.setCell ⟨g3, i, none⟩ (.int .i64 (joI xv' (2 ^ l)))) (some ⟨g3, 0, none⟩) (iC (wlL E i l))) := by have h0 := Rd.of_own hsto.out; rw [hwl.out] at h0; exact h0
            have hfr := free_any g (some ⟨b0, off0, none⟩) (some ⟨g3, 0, none⟩) c c3 lo S M N v u (wlL E i l) (w3.setCell ⟨g3, i, none⟩ (.int .i64 (joI xv' (2 ^ l)))) hN2 hsh.out hwe.out hI4.out hR4.out
            rw [wl_len] at hfr
            have hfrh := Lib.hid hfr
            have hbs := hBx.size
            clear hu0 ho3 hb3 hc0 hc1 ka hfr hsto
            go_wp2_with fail
            refine hfrh.out.mono ?_
            rintro e w5 ⟨rfl, hb5⟩
            have hB5 : Below w.heap.size w w5 := hB4.trans (hb5.mono hB4.size)
            clear hb5 hB4 hb4
            cases him : imV S (psN S M N) (wlL E i l)
            · have hgr2 : Hid (grA S (psN S M N) E i l = false) := hgr.out.trans him
              go_wp2
              go_roundw
              case rel =>
                refine ⟨l + 1, by omega, by go_num, fun m hm => ?_, (by repeat (first | exact Below.refl _ _ | assumption | refine Below.drew ?_ | refine below_drewN ?_ _ | refine Below.alloc' ?_ _ | (refine Below.setCell ?_ (by first | omega | (simp; done) | (simp; omega) | exact Below.size (by assumption) | exact Nat.le_trans (Below.size (by assumption)) (by simp)) _) | (refine Below.via' ?_ (by assumption)) | (refine Below.alloc ?_ (by first | omega | (simp; done) | (simp; omega) | exact Below.size (by assumption) | exact Nat.le_trans (Below.size (by assumption)) (by simp)) _) | (refine Below.via ?_ (by assumption) (by first | omega | (simp; done) | (simp; omega) | exact Below.size (by assumption) | exact Nat.le_trans (Below.size (by assumption)) (by simp)))))⟩
                rcases Nat.lt_or_ge m l with hj2 | hj2
                · exact hin.out m hj2
                · obtain rfl : m = l := by omega
                  exact hgr2.out
              case measure => simp [intOf]; omega
            · have hv := Lib.hid (gr_hit hlt hll (hgr.out.trans him))
              go_wp2
              go_ret
              exact ⟨ret_bool hv.out.symm, (by repeat (first | exact Below.refl _ _ | assumption | refine Below.drew ?_ | refine below_drewN ?_ _ | refine Below.alloc' ?_ _ | (refine Below.setCell ?_ (by first | omega | (simp; done) | (simp; omega) | exact Below.size (by assumption) | exact Nat.le_trans (Below.size (by assumption)) (by simp)) _) | (refine Below.via' ?_ (by assumption)) | (refine Below.alloc ?_ (by first | omega | (simp; done) | (simp; omega) | exact Below.size (by assumption) | exact Nat.le_trans (Below.size (by assumption)) (by simp)) _) | (refine Below.via ?_ (by assumption) (by first | omega | (simp; done) | (simp; omega) | exact Below.size (by assumption) | exact Nat.le_trans (Below.size (by assumption)) (by simp)))))⟩
          · rw [hh] at hsv
            have hq : (bits .and .i64 (xv' / 2 ^ l) 1 == 1) = true := by rw [hsv]; rfl
            have hgr := Lib.hid (grA_has (S := S) (P := psN S M N) hge.out hh)
            replace hsv := Lib.hid hsv
            replace hEi := Lib.hid hEi
            go_wp2
            go_roundw
            case rel =>
              refine ⟨l + 1, by omega, by go_num, fun m hm => ?_, (by repeat (first | exact Below.refl _ _ | assumption | refine Below.drew ?_ | refine below_drewN ?_ _ | refine Below.alloc' ?_ _ | (refine Below.setCell ?_ (by first | omega | (simp; done) | (simp; omega) | exact Below.size (by assumption) | exact Nat.le_trans (Below.size (by assumption)) (by simp)) _) | (refine Below.via' ?_ (by assumption)) | (refine Below.alloc ?_ (by first | omega | (simp; done) | (simp; omega) | exact Below.size (by assumption) | exact Nat.le_trans (Below.size (by assumption)) (by simp)) _) | (refine Below.via ?_ (by assumption) (by first | omega | (simp; done) | (simp; omega) | exact Below.size (by assumption) | exact Nat.le_trans (Below.size (by assumption)) (by simp)))))⟩
              rcases Nat.lt_or_ge m l with hj2 | hj2
              · exact hin.out m hj2
              · obtain rfl : m = l := by omega
                exact hgr.out
            case measure => simp [intOf]; omega
        · have hlq : (l : Int) = lvA S i := by omega
          have hgi := Lib.hid (grI_no (S := S) (P := psN S M N) (E := E) (i := i) (fun m hm => hin.out m (by omega)))
          clear hin
          go_wp2
          go_roundw
          case rel =>
            refine ⟨i + 1, by omega, by go_num, fun j hj => ?_, hBx⟩
            rcases Nat.lt_or_ge j i with hj2 | hj2
            · exact hall.out j hj2
            · obtain rfl : j = i := by omega
              exact hgi.out
          case measure => simp [intOf]; omega
    · have hij : i = E.length := by omega
      subst hij
      have hv := Lib.hid (gr_no hall.out)
      clear hall
      go_wp2
      go_ret
      exact ⟨ret_bool hv.out.symm, hBr⟩
end Go.Proofs.Ytgkaalonmkcclab

namespace Go.Proofs.Ytgkaalonmkcclab
open Go.RowKit
set_option maxRecDepth 100000

theorem vC_two (a : ByteArray) (n : Int) : vC [(a, n)] = [.string a, .int .i64 n] := rfl

theorem step_append_rd {P : Program} (w : World) {ops : Array Oper} {o : Oper} {a : Act} {K : Act → World → Prop} {Q : Exit → Act → World → Prop} {E : Prop} (hgd : o.guard = none) (s x : Operand) (t : TypeId)
    (ho : o.op = .call { callee := .builtin .append, args := #[s, x], argTypes := #[t, t] })
    (base : Nat) (e : TypeId) (i : TypeInfo) (z : Value) (size bytes : Nat) (ht : P.underlying t = some (.slice e)) (hi : P.info? e = some i) (hz : i.zero = some z)
    (hsize : i.size = size) (hby : i.bytes = bytes) (hzs : z.cells.size = size) (hsz : 0 < size)
    (v : Value) (n : Nat) (xs : List Value) (hs : a.eval s = v) (hown : w.ownsRow base e size v n xs)
    (A : Option Addr) (m c : Nat) (hx : a.eval x = .slice A m c) (hc : m ≤ c) (hnil : A = none → c = 0) (news : List Value) (hl : news.length = m * size) (hr : Rd w A news) (h1 : ∀ u ∈ news, u.oneCell' = true)
    (h63 : n + m ≤ maxLen) (hbytes : (n + m) * bytes ≤ 140737488355328) (hbase : base ≤ w.heap.size)
    (h : ∀ v' w', w'.ownsRow base e size v' (n + m) (xs ++ news) → w.grownBy w' v.ownBlock → (v'.ownBlock = v.ownBlock ∨ v'.ownBlock = some w.heap.size) → K (a.put o.dst v') w') :
    if Region.wanted o (yielded ops a.tmps) = true then Oper.wp P o a w K Q else E := by
  have hw : Region.wanted o (yielded ops a.tmps) = true := by simp [Region.wanted, hgd]
  rw [if_pos hw]
  obtain ⟨v', w', hrun, h2, h3, h4⟩ := run_append_rd (P := P) w base t o.type e i z size bytes ht hi hz hsize hby hzs hsz v n xs hown A m c hc hnil news hl hr h1 h63 hbytes hbase
  unfold Oper.wp execOp
  simp only [ho, resolve, invoke, builtin, Sem.run_bind, Sem.run_pure, Result.andThen_ok, List.map_toArray, List.map_cons, List.map_nil, hs, hx, hrun]
  exact h v' w' h2 h3 h4
theorem Rd.oneV (w : World) (t : TypeId) (s : ByteArray) (n : Int) : Rd (w.alloc (.cells #[.string s, .int .i64 n] t)) (some ⟨w.heap.size, 0, none⟩) (vC [(s, n)]) := by
  refine Or.inr ⟨w.heap.size, 0, rfl, by simp, fun j u hj => ?_⟩
  rw [vC_two] at hj
  rw [Nat.zero_add, World.cell?_alloc_at _ _ _ _ rfl, ← hj, ← Array.getElem?_toList]
theorem Rd.drewW {w : World} {x : Option Addr} {xs : List Value} (h : Rd w x xs) : Rd w.drew x xs := h

end Go.Proofs.Ytgkaalonmkcclab

namespace Go.Proofs.Ytgkaalonmkcclab
open Go.RowKit Go.Shelf
set_option maxRecDepth 100000

theorem Rd.oneEdM (w : World) (t : TypeId) (u : Option Addr) (n c g : Nat) (hg : w.heap.size = g) : Rd (w.alloc (.cells #[.slice u n c] t)) (some ⟨g, 0, none⟩) [.slice u n c] := by
  subst hg
  refine Or.inr ⟨w.heap.size, 0, rfl, by simp, fun j v hj => ?_⟩
  rw [Nat.zero_add, World.cell?_alloc_at _ _ _ _ rfl, ← hj, ← Array.getElem?_toList]
/-- What a search hands back: nothing; what it found stands in its memory. -/
def RunPost (S : List (ByteArray × Int)) (M : List (List Int)) (N : Nat) (v : Int) (x : Option Addr) (c lo : Nat) (W0 : World) (g : Nat) (L : List (List Int)) (w : World) (e : Ending) (w' : World) : Prop :=
  (∃ r, e = .returned r) ∧ ∃ (u' : Value) (T' : List PR), SrI S M N v x c lo w' g u' ∧ OwL w' lo u' T' ∧ eM T' = L ∧ KxT 146 90 w w' ∧ Below W0.heap.size W0 w'
theorem rnU_mono (S : List (ByteArray × Int)) (P : List Nat) (v : Int) (k : Nat) (D : List Int) (a : Int) {j n : Nat} (h : j ≤ n) : (rnU S P v k D a j).length ≤ (rnU S P v k D a n).length := by
  obtain ⟨d, rfl⟩ : ∃ d, n = j + d := ⟨n - j, by omega⟩
  clear h
  induction d with
  | zero => exact Nat.le_refl _
  | succ d ih =>
    rw [← Nat.add_assoc, rnU_step, List.length_append]
    omega
/-- A world in which the search's own block is written, and a row of edits grows. -/
theorem run_grow {S : List (ByteArray × Int)} {M : List (List Int)} {N : Nat} {v : Int} {x : Option Addr} {c lo g : Nat} {w w1 w2 : World} {u u' : Value} {T : List PR} {q : PR} {o : Obj} {nq : Nat} {W0 : World}
    (hI : SrI S M N v x c lo w1 g u) (hO : OwL w1 lo u T) (hk : KxT 146 90 w w1) (hB : Below W0.heap.size W0 w1) (hg : (w1.alloc o).grownBy w2 u.ownBlock) (hrow : w2.ownsRow lo 90 1 u' (T.length + 1) (eC T ++ eC [q])) (hq : w1.ownsRow nq 3 1 q.v q.L.length (iC q.L)) (hlo : lo ≤ nq) (hfr : ∀ p ∈ T, ∀ k, p.v.ownBlock = some k → k < nq)
    (hg0 : W0.heap.size ≤ g) (hl0 : W0.heap.size ≤ lo) :
    SrI S M N v x c lo (w2.setCell ⟨g, 3, none⟩ u') g u' ∧ OwL (w2.setCell ⟨g, 3, none⟩ u') lo u' (T ++ [q]) ∧ KxT 146 90 w (w2.setCell ⟨g, 3, none⟩ u') ∧ Below W0.heap.size W0 (w2.setCell ⟨g, 3, none⟩ u') := by
  have ho : ∀ k, u.ownBlock = some k → ∃ (cs : Array Value) (fz : Nat × Nat), (w1.alloc o).heap[k]? = some (Obj.cells cs 90 fz) := own_typ (hO.1.alloc o)
  have hb1 : Below w1.heap.size w1 (w1.alloc o) := (Below.refl _ _).alloc (Nat.le_refl _) _
  have I2 := (hI.below hb1).k1 (KxT.of_grown hg ho)
  have O2 := hO.snoc hg hrow hq hlo hfr
  obtain ⟨cs, fz, hblk⟩ := I2.blk
  refine ⟨I2.put u', O2.set (p := ⟨g, 3, none⟩) hblk (by decide) (by decide) u', (hk.trans (KxT.of_below hb1)).trans ((KxT.of_grown hg ho).trans (KxT.of_set (p := ⟨g, 3, none⟩) hblk u')), ?_⟩
  have hb2 : Below W0.heap.size W0 w2 := ((hB.alloc hB.size o).grown hg (by have := hB.size; simp; omega) (fun k hk => by have := (hO.1.lt k hk).1; omega))
  exact hb2.setCell (p := ⟨g, 3, none⟩) hg0 _
theorem en_cons {S : List (ByteArray × Int)} {v : Int} {k j : Nat} {r : List Int} (h : k < S.length) (hj : j < (flZ (lvA S k) + 1 - bnA S v k).toNat) (hr : r ∈ enL ((bnS S v).drop (k + 1))) : (bnA S v k + (j : Int)) :: r ∈ enL ((bnS S v).drop k) := by
  have e : (bnS S v).drop k = (bnA S v k, flZ (lvA S k)) :: (bnS S v).drop (k + 1) := by
    have h1 := bn_at (v := v) h
    have h2 := (List.getElem?_eq_some_iff.1 h1).1
    rw [List.drop_eq_getElem_cons h2]
    rw [List.getElem?_eq_getElem h2] at h1
    rw [Option.some.inj h1]
  rw [e]
  exact List.mem_flatMap.2 ⟨_, List.mem_map.2 ⟨j, List.mem_range.2 hj, rfl⟩, List.mem_map.2 ⟨r, hr, rfl⟩⟩
theorem run_same {S : List (ByteArray × Int)} {M : List (List Int)} {N : Nat} {v : Int} {x : Option Addr} {c lo g : Nat} {W0 w w' : World} {u : Value} {T : List PR} {r : Value} {L : List (List Int)} (hI : SrI S M N v x c lo w g u) (hO : OwL w lo u T) (hB : Below W0.heap.size W0 w) (hb : Below w.heap.size w w') (hL : eM T = L) : RunPost S M N v x c lo W0 g L w (.returned r) w' :=
  ⟨⟨r, rfl⟩, u, T, hI.below hb, hO.below hb, hL, KxT.of_below hb, hB.trans (hb.mono hB.size)⟩
/-- The contract of the search from a variable on. -/
def RunC (g : Nat) (x : Option Addr) (c lo : Nat) (S : List (ByteArray × Int)) (M : List (List Int)) (N : Nat) (v : Int) (W0 : World) (k : Nat) : Prop := ∀ (z : Option Addr) (cz : Nat) (D : List Int) (u : Value) (T : List PR) (w : World), D.length = k → (∀ r ∈ enL ((bnS S v).drop k), edB S (D ++ r) = true) → T.length + (rnL S (psN S M N) v k D).length ≤ 1000000 → SrI S M N v x c lo w g u → OwL w lo u T → lo ≤ w.heap.size → w.ownsRow lo 3 1 (.slice z D.length cz) D.length (iC D) → Below W0.heap.size W0 w → Calls Try.prog 114 #[.pointer (some ⟨g, 0, none⟩), .int .i64 k, .slice z D.length cz] w (RunPost S M N v x c lo W0 g (eM T ++ rnL S (psN S M N) v k D) w)
set_option maxHeartbeats 4000000 in
theorem run_zero (g : Nat) (x : Option Addr) (c lo : Nat) (S : List (ByteArray × Int)) (M : List (List Int)) (N : Nat) (v : Int) (W0 : World) (hN2 : N ≤ 262144) (hs : schB S = true) (hS : SIn W0 x c S) (hg0 : W0.heap.size ≤ g) (hl0 : W0.heap.size ≤ lo) (k : Nat) (hk : k + 0 = S.length) : RunC g x c lo S M N v W0 k := by
  obtain ⟨i0, hii, hz0, hz1, hz2⟩ := info_parts Try.infoInt
  obtain ⟨j0, hi, hy0, hy1, hy2⟩ := info_parts Try.infoEd
  obtain ⟨b0, off0, rfl, hb0, hcs⟩ := sin_box hS hs
  have hl6 := (schB_len hs).2
  have hSh := Lib.hid hS
  have hsh := Lib.hid hs
  clear hs hS hcs
  intro z cz D u T w hD hE hlen hI hO hlo hR hB
  obtain rfl : k = S.length := by omega
  have hD6 : D.length ≤ 6 := by omega
  have hED : Hid (edB S D = true) := by have h0 := hE [] (by rw [List.drop_eq_nil_of_le (by rw [bn_len]; omega)]; exact List.mem_singleton.2 rfl); rwa [List.append_nil] at h0
  obtain ⟨zz, cc, hform, hcz, hnz⟩ := (OwR.of hR).form
  injection hform with e1 _ e2
  subst e1 e2
  obtain ⟨vx, vc, rfl, -, -⟩ := (OwR.of hO.1).form
  have hIh := Lib.hid hI
  have hOh := Lib.hid hO
  have hRh := Lib.hid hR
  have hBh := Lib.hid hB
  have hnzh := Lib.hid hnz
  have hrn := Lib.hid (rn_end (S := S) (P := psN S M N) (v := v) (D := D))
  have hlenh := Lib.hid hlen
  obtain ⟨y, dd, TT, hW, -, -, -⟩ := hI
  have ka := (hW.read 0).trans rfl
  have kb := hW.inside
  clear hW hO hR hB hE hnz hlen hk
  replace hD := Lib.hid hD
  go_enter Try.func114, Try.ntmps114
  go_wp2_with fail
  refine (free_any g _ z c cz lo S M N v _ D _ hN2 hsh.out hED.out hIh.out (Rd.of_own hRh.out)).mono ?_
  rintro e w1 ⟨rfl, hb1⟩
  cases him : imV S (psN S M N) D
  · have hL : Hid (eM T = eM T ++ rnL S (psN S M N) v S.length D) := by unfold Hid; rw [hrn.out, if_neg (by rw [mx_no1 him]; exact Bool.false_ne_true), List.append_nil]
    go_wp2
    go_end0
    exact run_same hIh.out hOh.out hBh.out (by exact (by repeat (first | exact Below.refl _ _ | assumption | refine Below.drew ?_ | refine below_drewN ?_ _ | refine Below.alloc' ?_ _ | (refine Below.setCell ?_ (by first | omega | (simp; done) | (simp; omega) | exact Below.size (by assumption) | exact Nat.le_trans (Below.size (by assumption)) (by simp)) _) | (refine Below.via' ?_ (by assumption)) | (refine Below.alloc ?_ (by first | omega | (simp; done) | (simp; omega) | exact Below.size (by assumption) | exact Nat.le_trans (Below.size (by assumption)) (by simp)) _) | (refine Below.via ?_ (by assumption) (by first | omega | (simp; done) | (simp; omega) | exact Below.size (by assumption) | exact Nat.le_trans (Below.size (by assumption)) (by simp)))))) hL.out
  have himh := Lib.hid him
  clear him
  have hI1 := Lib.hid (hIh.out.below hb1)
  have hR1 := Lib.hid (own_below hRh.out hb1)
  go_wp2_with fail
  refine (grows_any g _ z c cz lo S M N v _ D W0 _ hN2 hsh.out hED.out hSh.out (hBh.out.trans (hb1.mono hBh.out.size)) hI1.out (Rd.of_own hR1.out) hcz hnzh.out).mono ?_
  rintro e w2 ⟨rfl, hb2⟩
  have hb02 : Below w.heap.size w w2 := hb1.trans (hb2.mono hb1.size)
  clear hI1 hR1 hb1 hb2
  cases hgr : grB S (psN S M N) D
  · have hL : Hid (∀ q : PR, q.L = D → eM (T ++ [q]) = eM T ++ rnL S (psN S M N) v S.length D) := fun q hq => by rw [hrn.out, if_pos (mx_yes himh.out hgr), eM_app]; unfold eM; rw [List.map_singleton, hq]
    have hTl : T.length + 1 ≤ 1000000 := by have h0 := hlenh.out; rw [hrn.out, if_pos (mx_yes himh.out hgr)] at h0; exact h0
    have hI2 := Lib.hid (hIh.out.below hb02)
    have hO2 := Lib.hid (hOh.out.below hb02)
    have hR2 := Lib.hid (own_below hRh.out hb02)
    have hB2 := Lib.hid (hBh.out.trans (hb02.mono hBh.out.size))
    obtain ⟨y, dd, TT, hW, -, -, -⟩ := hI2.out
    have ka2 := (hW.read 3).trans rfl
    have kb2 := hW.inside
    have hs02 := hb02.size
    have hRd : Hid (Rd w2.drew z (iC D)) := Rd.of_own hR2.out
    clear hW ka kb
    go_wp2_with fail
    go_region_law (first
      | (go_simp; go_at_call 91; refine (l1Own_any z cz D w2.drew (by omega) hcz hnzh.out hRd.out).mono ?_; rintro e w4 ⟨u4, rfl, ho4, hb4⟩; (obtain ⟨x4, c4, rfl, -, -⟩ := (OwR.of ho4).form); (have hb24 : Below w2.heap.size w2 w4 := ((Below.refl _ w2).drew).trans hb4); (have hI4 := Lib.hid (hI2.out.below hb24)); (have hO4 := Lib.hid (hO2.out.below hb24)); (obtain ⟨y4, d4, T4, hW4, -, -, -⟩ := hI4.out); (have kd := (hW4.read 3).trans rfl); (have ke := hW4.inside); (have hs4 := hb24.size); (have ho4 := Lib.hid ho4); clear hW4 hb4)
      | (go_loud (refine step_append_rd _ rfl (.tmp 28) (.tmp 32) 31 rfl lo 90 j0 (.agg #[.slice none 0 0]) 1 24 Try.underlying31 hi hy0 hy1 hy2 rfl (by decide) _ T.length (eC T) rfl (hO4.out.1.alloc _) _ 1 1 rfl (Nat.le_refl _) (by intro h; cases h) (eC [(⟨0, 0, x4, c4, D⟩ : PR)]) rfl (Rd.oneEdM _ _ _ _ _ _ (by simp)) (eC_one _) (by unfold maxLen; omega) (by omega) (by simp; omega) ?_); intro v5 w5 hown5 hgrow5 hwhere5; (obtain ⟨z5, c5, rfl, -, -⟩ := (OwR.of hown5).form); (have hI5 := Lib.hid ((hI4.out.below ((Below.refl _ w4).alloc (Nat.le_refl _) _)).k1 (KxT.of_grown hgrow5 (own_typ (hO4.out.1.alloc _))))); (obtain ⟨y5, d5, T5, hW5, -, -, -⟩ := hI5.out); (have kf := (hW5.read 3).trans rfl); (have kg := hW5.free 3); (have kh := hW5.inside); clear hW5)
      )
    all_goals
      have H := Lib.hid (run_grow (q := ⟨0, 0, x4, c4, D⟩) hI4.out hO4.out (KxT.of_below (hb02.trans (hb24.mono hs02))) (hB2.out.trans (hb24.mono hB2.out.size)) hgrow5 hown5 ho4.out (Nat.le_trans hlo hs02) (fun p hp k hk => by have := hO2.out.lt p hp k hk; exact this) hg0 hl0)
      clear hgrow5 hwhere5 hown5
      go_wp2
      go_end0
      exact ⟨⟨_, rfl⟩, _, _, H.out.1, H.out.2.1, hL.out _ rfl, H.out.2.2.1, H.out.2.2.2⟩
  · have hL : Hid (eM T = eM T ++ rnL S (psN S M N) v S.length D) := by unfold Hid; rw [hrn.out, if_neg (by rw [mx_no2 hgr]; exact Bool.false_ne_true), List.append_nil]
    go_wp2
    go_end0
    exact run_same hIh.out hOh.out hBh.out (by exact (by repeat (first | exact Below.refl _ _ | assumption | refine Below.drew ?_ | refine below_drewN ?_ _ | refine Below.alloc' ?_ _ | (refine Below.setCell ?_ (by first | omega | (simp; done) | (simp; omega) | exact Below.size (by assumption) | exact Nat.le_trans (Below.size (by assumption)) (by simp)) _) | (refine Below.via' ?_ (by assumption)) | (refine Below.alloc ?_ (by first | omega | (simp; done) | (simp; omega) | exact Below.size (by assumption) | exact Nat.le_trans (Below.size (by assumption)) (by simp)) _) | (refine Below.via ?_ (by assumption) (by first | omega | (simp; done) | (simp; omega) | exact Below.size (by assumption) | exact Nat.le_trans (Below.size (by assumption)) (by simp)))))) hL.out
set_option maxHeartbeats 4000000 in
theorem run_succ (g : Nat) (x : Option Addr) (c lo : Nat) (S : List (ByteArray × Int)) (M : List (List Int)) (N : Nat) (v : Int) (W0 : World) (hs : schB S = true) (hS : SIn W0 x c S) (d k : Nat) (hk : k + (d + 1) = S.length) (ih : RunC g x c lo S M N v W0 (k + 1)) : RunC g x c lo S M N v W0 k := by
  obtain ⟨i0, hii, hz0, hz1, hz2⟩ := info_parts Try.infoInt
  obtain ⟨j0, hi, hy0, hy1, hy2⟩ := info_parts Try.infoEd
  obtain ⟨b0, off0, rfl, hb0, hcs⟩ := sin_box hS hs
  have hl6 := (schB_len hs).2
  have hSh := Lib.hid hS
  have hsh := Lib.hid hs
  clear hs hS hcs
  intro z cz D u T w hD hE hlen hI hO hlo hR hB
  have hkl : k < S.length := by omega
  have hD6 : D.length ≤ 6 := by omega
  obtain ⟨zz, cc, hform, hcz, hnz⟩ := (OwR.of hR).form
  injection hform with e1 _ e2
  subst e1 e2
  have hIh := Lib.hid hI
  have hOh := Lib.hid hO
  have hRh := Lib.hid hR
  have hBh := Lib.hid hB
  have hnzh := Lib.hid hnz
  have hEh := Lib.hid hE
  have hlenh := Lib.hid hlen
  have hloh := hlo
  have hall := Lib.hid (rn_all (S := S) (P := psN S M N) (v := v) (D := D) hkl)
  have ihh := Lib.hid ih
  have hkne : ((k : Int) == (S.length : Int)) = false := by rw [beq_eq_false_iff_ne]; omega
  obtain ⟨y, dd, TT, hW, -, -, -⟩ := hI
  have ka := (hW.read 0).trans rfl
  have ka2 := (hW.read 2).trans rfl
  have kb := hW.inside
  clear hW hO hR hB hE hnz hlen ih
  replace hD := Lib.hid hD
  by_cases hkv : (k : Int) = v
  · have hbn := Lib.hid (bn_full (S := S) hkv)
    have hkq : ((k : Int) == v) = true := by rw [beq_iff_eq]; exact hkv
    replace hkv := Lib.hid hkv
    go_enter Try.func114, Try.ntmps114
    go_wp2_with fail
    refine (eFull_any _ _ S k (nmA S k) (lvA S k) _ (lvA_bd hsh.out hkl) (at_nm hkl) (hSh.out.rd.below hBh.out)).mono ?_
    rintro e wq ⟨rfl, rfl⟩
    go_wp2
    go_loopw [7] (fun c2 wr => ∃ (j : Nat) (u' : Value) (T' : List PR), j ≤ (flZ (lvA S k) + 1 - bnA S v k).toNat ∧ c2 = .int .i64 (bnA S v k + (j : Int)) ∧ Hid (SrI S M N v (some ⟨b0, off0, none⟩) c lo wr g u') ∧ Hid (OwL wr lo u' T') ∧ Hid (eM T' = eM T ++ rnU S (psN S M N) v k D (bnA S v k) j) ∧ Hid (KxT 146 90 w wr) ∧ Below W0.heap.size W0 wr ∧ lo ≤ wr.heap.size) (fun c2 _ => (flZ (lvA S k) + 1 - intOf c2).toNat)
    case atStart => exact ⟨0, _, T, by omega, (by first | rfl | (rw [hbn.out]; rfl) | (rw [hbn.out]; simp)), hIh.out.below (Below.refl w.heap.size w), hOh.out.below (Below.refl w.heap.size w), (by unfold Hid rnU; simp), KxT.of_below (Below.refl w.heap.size w), hBh.out.trans ((Below.refl w.heap.size w).mono hBh.out.size), Nat.le_trans hloh (Below.refl w.heap.size w).size⟩
    case round =>
      obtain ⟨j, u', T', hj, rfl, hI', hO', hM', hk', hBr, hlr⟩ := hrel
      have hBs := hBr.size
      obtain ⟨y, dd, TT, hW, -, -, -⟩ := hI'.out
      have ka := (hW.read 0).trans rfl
      have kb := hW.inside
      have hcap := flZ_bd (lvA_bd hsh.out hkl)
      have hb1 := bn_bd v hsh.out hkl
      clear hW
      by_cases hlt : j < (flZ (lvA S k) + 1 - bnA S v k).toNat
      · have hle : bnA S v k + (j : Int) ≤ flZ (lvA S k) := by omega
        have hD' := Lib.hid (hk'.out.own hRh.out (by decide) (by decide))
        have hst := Lib.hid (rnU_step S (psN S M N) v k D (bnA S v k) j)
        have hmo := Lib.hid (rnU_mono S (psN S M N) v k D (bnA S v k) (show j + 1 ≤ (flZ (lvA S k) + 1 - bnA S v k).toNat by omega))
        have hlT : Hid (T'.length + (rnL S (psN S M N) v (k + 1) (D ++ [bnA S v k + (j : Int)])).length ≤ 1000000) := by
          have h1 := congrArg List.length hM'.out
          rw [List.length_append, eM_len, eM_len] at h1
          have h2 := hmo.out
          rw [hst.out, List.length_append] at h2
          have h3 := hlenh.out
          rw [hall.out] at h3
          unfold Hid
          omega
        have hE' : Hid (∀ r ∈ enL ((bnS S v).drop (k + 1)), edB S ((D ++ [bnA S v k + (j : Int)]) ++ r) = true) := fun r hr => by
          rw [List.append_assoc]
          exact hEh.out _ (en_cons hkl hlt hr)
        have hw1 : IntKind.i64.wrap ((k : Int) + 1) = ((k + 1 : Nat) : Int) := by rw [IntWalk.i64_in _ (by omega)]; rfl
        have hw2 : IntKind.i64.wrap (bnA S v k + (j : Int) + 1) = bnA S v k + ((j + 1 : Nat) : Int) := by rw [IntWalk.i64_in _ (by omega)]; push_cast; omega
        clear hmo
        go_wp2_with fail
        refine (eFull_any _ _ S k (nmA S k) (lvA S k) _ (lvA_bd hsh.out hkl) (at_nm hkl) (hSh.out.rd.below hBr)).mono ?_
        rintro e wq ⟨rfl, rfl⟩
        go_wp2_with fail
        refine (l1Own_any z cz D _ (by omega) hcz hnzh.out (Rd.of_own hD'.out)).mono ?_
        rintro e wa ⟨u3, rfl, ho3, hb3⟩
        obtain ⟨x3, c3, rfl, -, -⟩ := (OwR.of ho3).form
        have ho3 := Lib.hid ho3
        have hs3a := hb3.size
        go_wp2_with (at_builtin; go_loud (refine wpList_append_rd _ rfl (.tmp 63) (.tmp 65) 24 rfl (wr.heap.size) 3 i0 (.int .i64 0) 1 8 Try.underlying24 hii hz0 hz1 hz2 rfl (by decide) _ (D).length (iC (D)) rfl ((ho3.out.alloc _)) _ 1 1 rfl (Nat.le_refl _) (by intro h; cases h) (iC [((bnA S v k + (j : Int)) : Int)]) rfl (rd_oneE _ _ _ _ (by simp)) (iC_one _) (by unfold maxLen; omega) (by omega) (by simp; omega) ?_); intro v3 w3 hown3 hgrow3 hwhere3)
        obtain ⟨hb4, -⟩ := append_below (w := wr) hb3 (fun k hk => (ho3.out.lt k hk).1) hgrow3 hwhere3
        have hown4 := own_snocE (M := D ++ [bnA S v k + (j : Int)]) hown3 rfl rfl
        obtain ⟨x4, c4, rfl, -, -⟩ := (OwR.of hown4).form
        have hih := Lib.hid (ihh.out x4 c4 (D ++ [bnA S v k + (j : Int)]) u' T' w3 (by rw [List.length_append, hD.out]; rfl) hE'.out hlT.out (hI'.out.below hb4) (hO'.out.below hb4) (Nat.le_trans hlr hb4.size) (own_more hown4 hlr) (hBr.trans (hb4.mono hBs)))
        have hk4 := Lib.hid (hk'.out.trans (KxT.of_below hb4))
        have hs4 := hb4.size
        clear hown3 hown4 hgrow3 hwhere3 hb4 hb3 ho3
        go_wp2_with fail
        refine hih.out.mono ?_
        rintro e w5 ⟨⟨r, rfl⟩, u5, T5, hI5, hO5, hM5, hk5, hB5⟩
        have hI5 := Lib.hid hI5
        have hO5 := Lib.hid hO5
        have hM5 := Lib.hid hM5
        have hk5 := Lib.hid hk5
        go_wp2
        go_roundw
        case rel => exact ⟨j + 1, u5, T5, by omega, (by first | rfl | rw [hw2] | go_num), hI5.out, hO5.out, (by unfold Hid; rw [hM5.out, hM'.out, hst.out, List.append_assoc]), hk4.out.trans hk5.out, hB5, Nat.le_trans hlr (Nat.le_trans hs4 hk5.out.1)⟩
        case measure => simp [intOf]; omega
      · have hjn : j = (flZ (lvA S k) + 1 - bnA S v k).toNat := by omega
        have hgt : ¬ bnA S v k + (j : Int) ≤ flZ (lvA S k) := by omega
        go_wp2_with fail
        refine (eFull_any _ _ S k (nmA S k) (lvA S k) _ (lvA_bd hsh.out hkl) (at_nm hkl) (hSh.out.rd.below hBr)).mono ?_
        rintro e wq ⟨rfl, rfl⟩
        go_wp2
        go_end0
        exact ⟨⟨_, rfl⟩, u', T', hI'.out, hO'.out, (by rw [hM'.out, hall.out, hjn]), hk'.out, hBr⟩
  · have hbn := Lib.hid (bn_one (S := S) hkv)
    have hkq : ((k : Int) == v) = false := by rw [beq_eq_false_iff_ne]; exact hkv
    replace hkv := Lib.hid hkv
    go_enter Try.func114, Try.ntmps114
    go_wp2
    go_loopw [7] (fun c2 wr => ∃ (j : Nat) (u' : Value) (T' : List PR), j ≤ (flZ (lvA S k) + 1 - bnA S v k).toNat ∧ c2 = .int .i64 (bnA S v k + (j : Int)) ∧ Hid (SrI S M N v (some ⟨b0, off0, none⟩) c lo wr g u') ∧ Hid (OwL wr lo u' T') ∧ Hid (eM T' = eM T ++ rnU S (psN S M N) v k D (bnA S v k) j) ∧ Hid (KxT 146 90 w wr) ∧ Below W0.heap.size W0 wr ∧ lo ≤ wr.heap.size) (fun c2 _ => (flZ (lvA S k) + 1 - intOf c2).toNat)
    case atStart => exact ⟨0, _, T, by omega, (by first | rfl | (rw [hbn.out]; rfl) | (rw [hbn.out]; simp)), hIh.out.below (Below.refl w.heap.size w), hOh.out.below (Below.refl w.heap.size w), (by unfold Hid rnU; simp), KxT.of_below (Below.refl w.heap.size w), hBh.out.trans ((Below.refl w.heap.size w).mono hBh.out.size), Nat.le_trans hloh (Below.refl w.heap.size w).size⟩
    case round =>
      obtain ⟨j, u', T', hj, rfl, hI', hO', hM', hk', hBr, hlr⟩ := hrel
      have hBs := hBr.size
      obtain ⟨y, dd, TT, hW, -, -, -⟩ := hI'.out
      have ka := (hW.read 0).trans rfl
      have kb := hW.inside
      have hcap := flZ_bd (lvA_bd hsh.out hkl)
      have hb1 := bn_bd v hsh.out hkl
      clear hW
      by_cases hlt : j < (flZ (lvA S k) + 1 - bnA S v k).toNat
      · have hle : bnA S v k + (j : Int) ≤ flZ (lvA S k) := by omega
        have hD' := Lib.hid (hk'.out.own hRh.out (by decide) (by decide))
        have hst := Lib.hid (rnU_step S (psN S M N) v k D (bnA S v k) j)
        have hmo := Lib.hid (rnU_mono S (psN S M N) v k D (bnA S v k) (show j + 1 ≤ (flZ (lvA S k) + 1 - bnA S v k).toNat by omega))
        have hlT : Hid (T'.length + (rnL S (psN S M N) v (k + 1) (D ++ [bnA S v k + (j : Int)])).length ≤ 1000000) := by
          have h1 := congrArg List.length hM'.out
          rw [List.length_append, eM_len, eM_len] at h1
          have h2 := hmo.out
          rw [hst.out, List.length_append] at h2
          have h3 := hlenh.out
          rw [hall.out] at h3
          unfold Hid
          omega
        have hE' : Hid (∀ r ∈ enL ((bnS S v).drop (k + 1)), edB S ((D ++ [bnA S v k + (j : Int)]) ++ r) = true) := fun r hr => by
          rw [List.append_assoc]
          exact hEh.out _ (en_cons hkl hlt hr)
        have hw1 : IntKind.i64.wrap ((k : Int) + 1) = ((k + 1 : Nat) : Int) := by rw [IntWalk.i64_in _ (by omega)]; rfl
        have hw2 : IntKind.i64.wrap (bnA S v k + (j : Int) + 1) = bnA S v k + ((j + 1 : Nat) : Int) := by rw [IntWalk.i64_in _ (by omega)]; push_cast; omega
        clear hmo
        go_wp2_with fail
        refine (eFull_any _ _ S k (nmA S k) (lvA S k) _ (lvA_bd hsh.out hkl) (at_nm hkl) (hSh.out.rd.below hBr)).mono ?_
        rintro e wq ⟨rfl, rfl⟩
        go_wp2_with fail
        refine (l1Own_any z cz D _ (by omega) hcz hnzh.out (Rd.of_own hD'.out)).mono ?_
        rintro e wa ⟨u3, rfl, ho3, hb3⟩
        obtain ⟨x3, c3, rfl, -, -⟩ := (OwR.of ho3).form
        have ho3 := Lib.hid ho3
        have hs3a := hb3.size
        go_wp2_with (at_builtin; go_loud (refine wpList_append_rd _ rfl (.tmp 63) (.tmp 65) 24 rfl (wr.heap.size) 3 i0 (.int .i64 0) 1 8 Try.underlying24 hii hz0 hz1 hz2 rfl (by decide) _ (D).length (iC (D)) rfl ((ho3.out.alloc _)) _ 1 1 rfl (Nat.le_refl _) (by intro h; cases h) (iC [((bnA S v k + (j : Int)) : Int)]) rfl (rd_oneE _ _ _ _ (by simp)) (iC_one _) (by unfold maxLen; omega) (by omega) (by simp; omega) ?_); intro v3 w3 hown3 hgrow3 hwhere3)
        obtain ⟨hb4, -⟩ := append_below (w := wr) hb3 (fun k hk => (ho3.out.lt k hk).1) hgrow3 hwhere3
        have hown4 := own_snocE (M := D ++ [bnA S v k + (j : Int)]) hown3 rfl rfl
        obtain ⟨x4, c4, rfl, -, -⟩ := (OwR.of hown4).form
        have hih := Lib.hid (ihh.out x4 c4 (D ++ [bnA S v k + (j : Int)]) u' T' w3 (by rw [List.length_append, hD.out]; rfl) hE'.out hlT.out (hI'.out.below hb4) (hO'.out.below hb4) (Nat.le_trans hlr hb4.size) (own_more hown4 hlr) (hBr.trans (hb4.mono hBs)))
        have hk4 := Lib.hid (hk'.out.trans (KxT.of_below hb4))
        have hs4 := hb4.size
        clear hown3 hown4 hgrow3 hwhere3 hb4 hb3 ho3
        go_wp2_with fail
        refine hih.out.mono ?_
        rintro e w5 ⟨⟨r, rfl⟩, u5, T5, hI5, hO5, hM5, hk5, hB5⟩
        have hI5 := Lib.hid hI5
        have hO5 := Lib.hid hO5
        have hM5 := Lib.hid hM5
        have hk5 := Lib.hid hk5
        go_wp2
        go_roundw
        case rel => exact ⟨j + 1, u5, T5, by omega, (by first | rfl | rw [hw2] | go_num), hI5.out, hO5.out, (by unfold Hid; rw [hM5.out, hM'.out, hst.out, List.append_assoc]), hk4.out.trans hk5.out, hB5, Nat.le_trans hlr (Nat.le_trans hs4 hk5.out.1)⟩
        case measure => simp [intOf]; omega
      · have hjn : j = (flZ (lvA S k) + 1 - bnA S v k).toNat := by omega
        have hgt : ¬ bnA S v k + (j : Int) ≤ flZ (lvA S k) := by omega
        go_wp2_with fail
        refine (eFull_any _ _ S k (nmA S k) (lvA S k) _ (lvA_bd hsh.out hkl) (at_nm hkl) (hSh.out.rd.below hBr)).mono ?_
        rintro e wq ⟨rfl, rfl⟩
        go_wp2
        go_end0
        exact ⟨⟨_, rfl⟩, u', T', hI'.out, hO'.out, (by rw [hM'.out, hall.out, hjn]), hk'.out, hBr⟩
theorem run_any (g : Nat) (x : Option Addr) (c lo : Nat) (S : List (ByteArray × Int)) (M : List (List Int)) (N : Nat) (v : Int) (W0 : World) (hN2 : N ≤ 262144) (hs : schB S = true) (hS : SIn W0 x c S) (hg0 : W0.heap.size ≤ g) (hl0 : W0.heap.size ≤ lo) : ∀ d k : Nat, k + d = S.length → RunC g x c lo S M N v W0 k
  | 0, k, hk => run_zero g x c lo S M N v W0 hN2 hs hS hg0 hl0 k hk
  | d + 1, k, hk => run_succ g x c lo S M N v W0 hs hS d k hk (run_any g x c lo S M N v W0 hN2 hs hS hg0 hl0 d (k + 1) (by omega))
end Go.Proofs.Ytgkaalonmkcclab

namespace Go.Proofs.Ytgkaalonmkcclab
open Go.RowKit Go.Shelf
set_option maxRecDepth 100000
set_option linter.unusedSimpArgs false
attribute [local go_sem] Oper.semAt_some

theorem editsFrom_any (x y : Option Addr) (n1 n2 c1 c2 : Nat) (w : World) :
    Calls Try.prog 158 #[.slice x n1 c1, .slice y n2 c2] w fun e w' => e = .returned (.func (.func 172) #[] #[.pointer (some ⟨w.heap.size + 1, 0, none⟩), .pointer (some ⟨w.heap.size, 0, none⟩)]) ∧ w' = (w.alloc (.cells #[.slice x n1 c1] 29)).alloc (.cells #[.slice y n2 c2] 24) := by
  go_enter Try.func158, Try.ntmps158
  go_wp2
  go_ret
  exact ⟨by simp, rfl⟩
theorem OwL.keep {w w' : World} {lo : Nat} {v : Value} {T : List PR} {r : Option Nat} (h : OwL w lo v T) (hg : w.grownBy w' r) (hr : ∀ k, r = some k → (∃ o : Obj, w.heap[k]? = some o ∧ o.isCells = false) ∨ k < lo) : OwL w' lo v T := by
  have key : ∀ {base e s n : Nat} {u : Value} {xs : List Value}, lo ≤ base → w.ownsRow base e s u n xs → w'.ownsRow base e s u n xs := by
    intro base e s n u xs hb hx
    refine hx.kept hg ?_
    rcases hx.2 with ⟨rfl, _⟩ | ⟨g, cap, cur, rfl, hbg, hgb, _⟩
    · exact .inl rfl
    · refine .inr fun e' => ?_
      rcases hr g e'.symm with ⟨o, ho, hc⟩ | hlt
      · rw [hgb] at ho
        cases ho
        cases hc
      · omega
  exact ⟨key (Nat.le_refl _) h.1, fun q hq => key (Nat.le_refl _) (h.2.1 q hq), h.2.2⟩
/-- What stands in the box of the results so far: behind the iterator's memory. -/
def MxI (S : List (ByteArray × Int)) (P : List Nat) (Bm hi : Nat) (pre : List PR) (X : World) : Prop := ∃ (u : Value) (T : List PR), Boxed X Bm 31 u ∧ OwL X hi u T ∧ eM T = (eM pre).filter (mxB S P) ∧ ∀ p ∈ T, p ∈ pre
theorem OwL.snocN {w1 w2 : World} {lo : Nat} {v v' : Value} {T : List PR} {q : PR} {o : Obj} (h : OwL w1 lo v T) (hg : (w1.alloc o).grownBy w2 v.ownBlock) (hrow : w2.ownsRow lo 90 1 v' (T.length + 1) (eC T ++ eC [q])) (hq : w1.ownsRow lo 3 1 q.v q.L.length (iC q.L)) (hfr : ∀ p ∈ T, ∀ k, p.v.ownBlock = some k → q.v.ownBlock ≠ some k) : OwL w2 lo v' (T ++ [q]) := by
  refine ⟨own_eq hrow (by simp) (by unfold eC; rw [List.map_append]), fun p hp => ?_, ?_⟩
  · rcases List.mem_append.1 hp with h1 | h1
    · exact ((h.2.1 p h1).alloc o).kept hg (rows_apart (h.2.1 p h1) h.1 (by decide))
    · obtain rfl := List.mem_singleton.1 h1
      exact (hq.alloc o).kept hg (rows_apart hq h.1 (by decide))
  · rw [List.filterMap_append, List.nodup_append]
    refine ⟨h.2.2, ?_, ?_⟩
    · cases e : q.v.ownBlock with
      | none => simp [List.filterMap, e]
      | some k => simp [List.filterMap, e]
    · intro a ha b hb
      obtain ⟨p, hp, ep⟩ := List.mem_filterMap.1 ha
      obtain ⟨r, hr, er⟩ := List.mem_filterMap.1 hb
      obtain rfl := List.mem_singleton.1 hr
      rintro rfl
      exact hfr p hp a ep er
theorem mxI_from {S : List (ByteArray × Int)} {P : List Nat} {Bm hi B : Nat} : OwnFrom B (MxI S P Bm hi) := fun pre A C row hs hg hr => by
  obtain ⟨u, T, h1, h2, h3⟩ := hs
  exact ⟨u, T, boxed_own Bm 31 (fun _ : Unit => u) () A C row h1 hg (fun r e => (hr r e).2), h2.keep hg (fun k hk => .inl (hr k hk).2), h3⟩
theorem mxI_gap {S : List (ByteArray × Int)} {P : List Nat} {Bm hi g : Nat} {pre : List PR} {A C : World} (hs : MxI S P Bm hi pre A) (hg : A.grownBy C (some g)) (h1 : g ≠ Bm) (h2 : g < hi) : MxI S P Bm hi pre C := by
  obtain ⟨u, T, k1, k2, k3⟩ := hs
  exact ⟨u, T, k1.kept hg (fun e => h1 (by injection e with e; exact e.symm)), k2.keep hg (fun k hk => .inr (by injection hk with hk; omega)), k3⟩
/-- The list of the maximal edits, handed back. -/
def MfPost (L : List (List Int)) (w : World) (e : Ending) (w' : World) : Prop := ∃ u T, e = .returned u ∧ eM T = L ∧ OwL w' w.heap.size u T ∧ Below w.heap.size w w'
set_option maxHeartbeats 8000000 in
theorem maximalFrom_any (v : Int) (x y : Option Addr) (c1 c2 Bi : Nat) (S : List (ByteArray × Int)) (M : List (List Int)) (N : Nat) (w : World) (hs : schB S = true) (hcn : cnZ S ≤ 100) (hS : SIn w x c1 S) (hL : Rd w y (iC (lwL (bnS S v)))) (hc2 : S.length ≤ c2) (hI : ImIn S M N w Bi) :
    Calls Try.prog 120 #[.slice x S.length c1, .slice y S.length c2, .func (.func 164) #[] #[.pointer (some ⟨Bi, 0, none⟩)]] w (MfPost ((enL (bnS S v)).filter (mxB S (psN S M N))) w) := by
  obtain ⟨j0, hif, hy0, hy1, hy2⟩ := info_parts Try.infoEd
  have hSh := Lib.hid hS
  have hsh := Lib.hid hs
  have hLh := Lib.hid hL
  have hIh := Lib.hid hI
  have hsm := Lib.hid (en_small v hs hcn).2
  refine (callsIn_wide (n := 5)).1 ?_
  refine callsIn_of_wp_marks Try.func120 rfl trivial ?_ rfl
  simp only [Try.ntmps120, List.size_toArray, List.length_cons, List.length_nil, Nat.reduceAdd, Nat.reduceSub, Array.replicate_succ, Array.replicate_zero, List.push_toArray, List.append_toArray, List.nil_append, List.cons_append]
  refine wpIn_wide.2 ?_
  go_wp2
  go_step3
  go_wp2
  go_step3
  go_wp2_with (go_at_call 158; refine (editsFrom_any _ _ _ _ _ _ _).mono ?_; rintro e w' ⟨rfl, rfl⟩)
  have z1 := ((((Boxed.new w 29 (.slice x S.length c1)).alloc (.cells #[.func (.func 164) #[] #[.pointer (some ⟨Bi, 0, none⟩)]] 152)).alloc (.cells #[.slice none 0 0] 31)).alloc (.cells #[.slice x S.length c1] 29)).alloc (.cells #[.slice y S.length c2] 24)
  have z2 := (((Boxed.new (w.alloc (.cells #[.slice x S.length c1] 29)) 152 (.func (.func 164) #[] #[.pointer (some ⟨Bi, 0, none⟩)])).alloc (.cells #[.slice none 0 0] 31)).alloc (.cells #[.slice x S.length c1] 29)).alloc (.cells #[.slice y S.length c2] 24)
  have z3 := ((Boxed.new ((w.alloc (.cells #[.slice x S.length c1] 29)).alloc (.cells #[.func (.func 164) #[] #[.pointer (some ⟨Bi, 0, none⟩)]] 152)) 31 (.slice none 0 0)).alloc (.cells #[.slice x S.length c1] 29)).alloc (.cells #[.slice y S.length c2] 24)
  have z4 := (Boxed.new (((w.alloc (.cells #[.slice x S.length c1] 29)).alloc (.cells #[.func (.func 164) #[] #[.pointer (some ⟨Bi, 0, none⟩)]] 152)).alloc (.cells #[.slice none 0 0] 31)) 29 (.slice x S.length c1)).alloc (.cells #[.slice y S.length c2] 24)
  have z5 := Boxed.new ((((w.alloc (.cells #[.slice x S.length c1] 29)).alloc (.cells #[.func (.func 164) #[] #[.pointer (some ⟨Bi, 0, none⟩)]] 152)).alloc (.cells #[.slice none 0 0] 31)).alloc (.cells #[.slice x S.length c1] 29)) 24 (.slice y S.length c2)
  have hB0 : Below w.heap.size w (((((w.alloc (.cells #[.slice x S.length c1] 29)).alloc (.cells #[.func (.func 164) #[] #[.pointer (some ⟨Bi, 0, none⟩)]] 152)).alloc (.cells #[.slice none 0 0] 31)).alloc (.cells #[.slice x S.length c1] 29)).alloc (.cells #[.slice y S.length c2] 24)) := (by repeat (first | exact Below.refl _ _ | assumption | refine Below.drew ?_ | refine below_drewN ?_ _ | refine Below.alloc' ?_ _ | (refine Below.setCell ?_ (by first | omega | (simp; done) | (simp; omega) | exact Below.size (by assumption) | exact Nat.le_trans (Below.size (by assumption)) (by simp)) _) | (refine Below.via' ?_ (by assumption)) | (refine Below.alloc ?_ (by first | omega | (simp; done) | (simp; omega) | exact Below.size (by assumption) | exact Nat.le_trans (Below.size (by assumption)) (by simp)) _) | (refine Below.via ?_ (by assumption) (by first | omega | (simp; done) | (simp; omega) | exact Below.size (by assumption) | exact Nat.le_trans (Below.size (by assumption)) (by simp)))))
  simp only [World.size_alloc] at z2 z3 z4 z5
  have hsz : (((((w.alloc (.cells #[.slice x S.length c1] 29)).alloc (.cells #[.func (.func 164) #[] #[.pointer (some ⟨Bi, 0, none⟩)]] 152)).alloc (.cells #[.slice none 0 0] 31)).alloc (.cells #[.slice x S.length c1] 29)).alloc (.cells #[.slice y S.length c2] 24)).heap.size = w.heap.size + 5 := by simp
  obtain ⟨W0, hW0⟩ : ∃ W0, (((((w.alloc (.cells #[.slice x S.length c1] 29)).alloc (.cells #[.func (.func 164) #[] #[.pointer (some ⟨Bi, 0, none⟩)]] 152)).alloc (.cells #[.slice none 0 0] 31)).alloc (.cells #[.slice x S.length c1] 29)).alloc (.cells #[.slice y S.length c2] 24)) = W0 := ⟨_, rfl⟩
  rw [hW0] at z1 z2 z3 z4 z5 hB0 hsz ⊢
  have hit := Lib.hid (ef_rows 4 (by omega) v (w.heap.size + 1 + 1 + 1 + 1) (w.heap.size + 1 + 1 + 1) (w.heap.size + 1 + 1) x y c1 c2 S w W0 hs hS hL hc2 hB0 z5 z4 (by omega) (by omega) (by omega))
  clear hW0 z4 z5 hs hS hL hI
  refine (wpIn_wide (n := 5)).1 ?_
  refine range_gap (by omega) (gf := 172) (lb := #[.pointer (some ⟨w.heap.size + 1 + 1 + 1 + 1, 0, none⟩), .pointer (some ⟨w.heap.size + 1 + 1 + 1, 0, none⟩)]) rfl (enters_of Try.func172 (by kernel_rfl) rfl) rfl
    edV (KpG w.heap.size (w.heap.size + 1 + 1)) (EnR S v) (fun ys => eM ys = enL (bnS S v)) hit.out (Below.refl _ _)
    (fun _ _ _ _ h k => h.trans k) (fun hi X l o o' hl hlo hc hw => ⟨belowK_b (w := W0) (by omega) X l o o' hl hlo hc hw, by simp, fun k cs t fz hk _ _ => World.putObj_heap_other (by rintro rfl; rw [hlo] at hk; cases hk; cases hc)⟩)
    (fun hi pre X => (((MxI S (psN S M N) (w.heap.size + 1 + 1) hi pre X ∧ Boxed X w.heap.size 29 (.slice x S.length c1)) ∧ Boxed X (w.heap.size + 1) 152 (.func (.func 164) #[] #[.pointer (some ⟨Bi, 0, none⟩)])) ∧ Below w.heap.size w X) ∧ (W0.heap.size ≤ X.heap.size ∧ W0.heap.size ≤ hi))
    (fun _ _ _ => False)
    (fun hi => OwnFrom.and (OwnFrom.and (OwnFrom.and (OwnFrom.and mxI_from (Own.from (boxed_own _ _ _) _)) (Own.from (boxed_own _ _ _) _)) (ownFrom_below (Nat.le_refl _) (by omega))) (fun _ A B row hs hg _ => ⟨Nat.le_trans hs.1 hg.size, hs.2⟩))
    (fun _ _ _ _ _ hs _ _ => hs)
    (fun hi pre A B g ⟨⟨⟨⟨h1, h2⟩, h3⟩, h4⟩, h5⟩ hg hg1 hg2 => ⟨⟨⟨⟨mxI_gap h1 hg (by omega) hg2, h2.kept hg (fun e => by injection e with e; omega)⟩, h3.kept hg (fun e => by injection e with e; omega)⟩, h4.grown hg h4.size (fun k hk => by injection hk with hk; omega)⟩, ⟨Nat.le_trans h5.1 hg.size, h5.2⟩⟩)
    (fun hi hh => ⟨⟨⟨⟨⟨.slice none 0 0, [], z3, OwL.nil _ _, rfl, fun p hp => by cases hp⟩, z1⟩, z2⟩, hB0⟩, Nat.le_refl _, hh⟩)
    (fun hi pre q a' X => ∃ Bx, (W0.heap.size < Bx ∧ a' = { tmps := #[.slice x S.length c1, .slice y S.length c2, .func (.func 164) #[] #[.pointer (some ⟨Bi, 0, none⟩)], .pointer (some ⟨w.heap.size, 0, none⟩), undef, .pointer (some ⟨w.heap.size + 1, 0, none⟩), .slice none 0 0, .pointer (some ⟨w.heap.size + 1 + 1, 0, none⟩), .pointer (some ⟨Bx, 0, none⟩), undef, undef, undef, .slice x S.length c1, .slice y S.length c2, .func (.func 172) #[] #[.pointer (some ⟨w.heap.size + 1 + 1 + 1 + 1, 0, none⟩), .pointer (some ⟨w.heap.size + 1 + 1 + 1, 0, none⟩)], edV q, undef, undef, undef, undef, undef, undef, undef, undef, undef, undef, undef, undef, undef, undef, undef, undef, undef, undef, undef, undef, undef, undef, undef, undef, undef, undef, undef, undef, undef, undef, undef, undef, undef, undef, undef, undef, undef, undef, undef], defers := [] } ∧ (∃ post, enL (bnS S v) = eM pre ++ q.L :: post) ∧ ∀ p ∈ pre, ∀ k, p.v.ownBlock = some k → q.v.ownBlock ≠ some k) ∧ Wb X Bx 90 #[q.v] ∧ X.ownsRow hi 3 1 q.v q.L.length (iC q.L))
    (fun hi pre q a' _ A B row hs hg hr => by obtain ⟨Bx, h1, h2, h3⟩ := hs; exact ⟨Bx, h1, wb_kept h2 hg (fun r e => (hr r e).2), own_cells h3 hg (fun r e => (hr r e).2)⟩)
    ?assign ?body ?done ?stop
  case assign =>
    rintro hi l pre ⟨qa, qh, qx, qc, qL⟩ X K hhi ⟨⟨⟨⟨hM1, h2⟩, h3⟩, h4⟩, h5, h6⟩ ⟨hpost, hrow, hhX⟩ hK
    simp only [edV, PR.v] at hrow ⊢
    obtain ⟨u, T, k1, k2, k3⟩ := hM1
    have k3h := Lib.hid k3
    have hph := Lib.hid hpost
    have hax : Below X.heap.size X (X.alloc (.cells #[.slice qx qL.length qc] 90)) := (Below.refl _ X).alloc (Nat.le_refl _) _
    have hKh := Lib.hid hK
    have a1 := hK
    clear k3 hpost hK a1
    gi_wp2
    refine hKh.out _ _ ((KeepsOthers.alloc _ _).from _) ⟨(Below.refl _ X).alloc h4.size _, by simp, fun k cs t fz hk _ _ => Below.heap_alloc X _ _ (Array.getElem?_eq_some_iff.1 hk).1⟩ ⟨⟨⟨⟨⟨u, T, k1.alloc _, k2.below hax, k3h.out⟩, h2.alloc _⟩, h3.alloc _⟩, h4.alloc h4.size _⟩, Nat.le_trans h5 (by simp), h6⟩ ⟨X.heap.size, ⟨by omega, rfl, hph.out⟩, Wb.new X _ _, hrow.alloc _⟩
  case body =>
    rintro hi l pre ⟨qa, qh, qx, qc, qL⟩ a' X hhi hl ⟨r, hr⟩ ⟨⟨⟨⟨hM1, h2⟩, h3⟩, h4⟩, h5, h6⟩ ⟨Bx, ⟨hBx, rfl, hpost, hnd⟩, hWb, hrow⟩
    simp only [edV, PR.v] at hrow hWb ⊢
    dsimp only at hpost
    have hed : edB S qL = true := by
      obtain ⟨post, hp⟩ := hpost
      exact en_ed (v := v) hsh.out (by rw [hp]; exact List.mem_append_right _ (List.mem_cons_self ..))
    have hlT : (eM pre).length < 1000000 := by
      obtain ⟨post, hp⟩ := hpost
      have h0 := hsm.out
      rw [hp, List.length_append, List.length_cons] at h0
      omega
    obtain ⟨gq, cq, eq0⟩ := own_some hrow (by have h0 := ed_len hed; have := (schB_len hsh.out).1; omega)
    injection eq0 with eq1 _ eq3
    subst eq1
    subst eq3
    have hqin := Lib.hid (ed_iin hsh.out hed (Rd.of_own hrow))
    have hIX := Lib.hid (hIh.out.below h4)
    have e2 := h2.cell
    have e3 := h3.cell
    have e8 := hWb.read 0
    have e8i := hWb.inside
    have him := Lib.hid (implied1_any Bi (some ⟨gq, 0, none⟩) qc S M N qL X hsh.out hed hIX.out hqin.out)
    have hedh := Lib.hid hed
    have hM1h := Lib.hid hM1
    have h2h := Lib.hid h2
    have h3h := Lib.hid h3
    have h4h := Lib.hid h4
    have hWbh := Lib.hid hWb
    have hrowh := Lib.hid hrow
    have hndh := Lib.hid hnd
    clear hpost hed hM1 h2 h3 h4 hWb hrow hit hl hr hnd
    gi_wp2_with fail
    refine ⟨trivial, ?_⟩
    refine (CallsIn.inRound l (callsIn_wide.2 him.out)).mono ?_
    rintro e X2 ⟨rfl, hb2⟩
    cases hv : imV S (psN S M N) qL
    · have hmx := mx_no1 hv
      gi_wp2
      refine rowPost_on (KeepsFrom.of_grownBy (grown_belowE hb2) (by intro j hj; cases hj)) ⟨(hb2).mono h4h.out.size, (hb2).size, fun k cs t fz hk _ _ => (hb2).block k (Array.getElem?_eq_some_iff.1 hk).1⟩ ⟨⟨⟨⟨?_, boxed_below h2h.out hb2⟩, boxed_below h3h.out hb2⟩, h4h.out.trans ((hb2).mono h4h.out.size)⟩, Nat.le_trans h5 (hb2).size, h6⟩
      obtain ⟨u, T, k1, k2, k3, k4⟩ := hM1h.out
      refine ⟨u, T, boxed_below k1 hb2, k2.below hb2, ?_, fun p hp => List.mem_append_left _ (k4 p hp)⟩
      rw [eM_app, List.filter_append, k3]
      show _ = _ ++ List.filter _ [qL]
      rw [List.filter_cons_of_neg (by rw [hmx]; exact Bool.false_ne_true), List.filter_nil, List.append_nil]
    · obtain ⟨b0, off0, hxe, hb0, hcs⟩ := sin_box hSh.out hsh.out
      subst hxe
      have hcsh := Lib.hid hcs
      have hlq := Lib.hid (ed_len hedh.out)
      have hl6 := (schB_len hsh.out).2
      have hvh := Lib.hid hv
      have g2 := (boxed_below h2h.out hb2).cell
      have hXX := hb2.size
      clear hcs him e2 e3 e8 hv
      gi_wp2
      gi_loopw [22] (fun q2 wr => ∃ i : Nat, i ≤ S.length ∧ q2 = .int .i64 i ∧ Hid (∀ j, j < i → grI S (psN S M N) qL j = false) ∧ Below X.heap.size X wr) (fun q2 _ => S.length - (intOf q2).toNat)
      case atStart => exact ⟨0, by omega, rfl, (fun j hj => absurd hj (by omega)), hb2⟩
      case round =>
        clear hb2 g2 hXX
        obtain ⟨i, hi', rfl, hall, hbr⟩ := hrel
        obtain ⟨wo, rfl⟩ : ∃ q : World, q = wr := ⟨_, rfl⟩
        by_cases hlt : i < S.length
        · obtain ⟨l1, l2⟩ := lvA_bd hsh.out hlt
          obtain ⟨s0, s1⟩ := hcsh.out i hlt
          have hBw : Below w.heap.size w wo := h4h.out.trans (hbr.mono h4h.out.size)
          have hc0 := (hBw.cell (p := ⟨b0, off0 + i * 2, none⟩) hb0).trans s0
          have hc1 := (hBw.cell (p := ⟨b0, off0 + i * 2 + 1, none⟩) hb0).trans s1
          have hb0' : b0 < wo.heap.size := by have := hBw.size; omega
          have hlt' : (i : Int) < (S.length : Int) := by omega
          have hi0 : (0 : Int) ≤ (i : Int) := by omega
          clear s0 s1
          gi_wp2
          clear hc0 hc1 hb0'
          gi_loopw [29] (fun q3 wr2 => ∃ l0 : Nat, (l0 : Int) ≤ lvA S i ∧ q3 = .int .i64 l0 ∧ Hid (∀ l', l' < l0 → grA S (psN S M N) qL i l' = false) ∧ Below X.heap.size X wr2) (fun q3 _ => (lvA S i).toNat - (intOf q3).toNat)
          case atStart => exact ⟨0, by omega, rfl, (fun j hj => absurd hj (by omega)), hbr.alloc hbr.size _⟩
          case round =>
            clear hbr hBw
            obtain ⟨l0, hl0, rfl, hgl, hbr2⟩ := hrel
            obtain ⟨wp, rfl⟩ : ∃ q : World, q = wr := ⟨_, rfl⟩
            by_cases hll : (l0 : Int) < lvA S i
            · obtain ⟨nm, lv, x, _, hxq, hx0, hx1, _, _, hx2⟩ := ed_at hsh.out hedh.out (i := i) hlt
              have hx255 : 0 ≤ x ∧ x ≤ 255 := by omega
              have hcz : qL.length ≤ qc := by
                obtain ⟨_, _, e, h, _⟩ := (OwR.of hrowh.out).form
                injection e with _ _ e
                omega
              have hhl : Hid (∀ W : World, Calls Try.prog 159 #[.int .i64 x, .int .i64 (l0 : Int)] W fun e w' => e = .returned (.bool (hsB x l0)) ∧ W = w') := fun W => hasLevel_any x l0 W hx255.1 hx255.2 (by omega) (by omega)
              have hwl : Hid (∀ W : World, Below X.heap.size X W → Calls Try.prog 160 #[.agg #[.slice (some ⟨gq, 0, none⟩) qL.length qc], .int .i64 (i : Int), .int .i64 (l0 : Int)] W (WlPost (wlL qL i l0).length (wlL qL i l0) W)) := fun W hW => (withLevel_any (some ⟨gq, 0, none⟩) qc S qL i l0 W hsh.out hedh.out hlt hll (Rd.of_own (own_below hrowh.out hW)) hcz).mono (by rintro e w3 ⟨u, c, rfl, h1, h2⟩; exact ⟨u, c, by rw [wl_len], by rw [wl_len]; exact h1, h2⟩)
              have hi3 : Hid (∀ (W : World) (u : Option Addr) (c B : Nat), Below X.heap.size X W → W.ownsRow B 3 1 (.slice u (wlL qL i l0).length c) (wlL qL i l0).length (iC (wlL qL i l0)) → Calls Try.prog 164 #[.agg #[.slice u (wlL qL i l0).length c], .pointer (some ⟨Bi, 0, none⟩)] W fun e w' => e = .returned (.bool (imV S (psN S M N) (wlL qL i l0))) ∧ Below W.heap.size W w') := fun W u c B hW hown => implied1_any Bi u c S M N (wlL qL i l0) W hsh.out (wl_ed hsh.out hedh.out hlt hll) (hIX.out.below hW) (ed_iin hsh.out (wl_ed hsh.out hedh.out hlt hll) (Rd.of_own hown))
              have p5 := (boxed_below h3h.out hbr2).cell
              have p8w := wb_kept hWbh.out (grown_belowE hbr2) (by intro r e; cases e)
              have p8 := p8w.read 0
              have p8i := p8w.inside
              have pq := own_below hrowh.out hbr2
              obtain ⟨u3, hu3, pc⟩ := own_cell pq (j := i) (by have := hlq.out; omega)
              obtain rfl : u3 = .int .i64 x := Option.some.inj (hu3.symm.trans (iC_at hxq))
              have pgi := (own_lt pq).2
              have hiq : (i : Int) < (qL.length : Int) := by have := hlq.out; omega
              have hbr2h := Lib.hid hbr2
              have hxqh := Lib.hid hxq
              clear hbr2 p8w pq hu3 hxq
              gi_wp2
              gi_cut [47, 49, 50, 51, 52, 53, 54] from 32 (fun s47 s49 s50 s51 s52 s53 s54 wx => (s47 = .bool (grA S (psN S M N) qL i l0) ∧ Below X.heap.size X wx) ∧ s49 = u49 ∧ s50 = undef ∧ s51 = undef ∧ s52 = undef ∧ s53 = undef ∧ s54 = undef)
              case first =>
                have hBp : Below X.heap.size X wp := hbr2h.out
                cases hh : hsB x (l0 : Int)
                · have hgv := Lib.hid (grA_not (S := S) (P := psN S M N) hxqh.out hh)
                  rw [hh] at hhl
                  refine wpIn_region_heldN (S := fun W => Below wp.heap.size wp W) (by kernel_rfl) (by kernel_rfl) (Below.drew (Below.refl _ _)) (fun hHeld => ?_)
                  refine wpAnyH_take (i := 0) (v := ?_) rfl (by kernel_rfl) (by kernel_rfl) (by kernel_rfl) (fun _ _ _ h => h) (Or.inl ⟨by rfl, ?_⟩) (by assumption) ?_
                  rotate_left
                  · intro wz hz
                    have f5 := (hz.cell (p := ⟨w.heap.size + 1, 0, none⟩) (by dsimp only; omega)).trans p5
                    have f8 := (hz.cell (p := ⟨Bx, 0, none⟩) (by dsimp only; omega)).trans p8
                    have fc := (hz.cell (p := ⟨gq, i, none⟩) (by dsimp only; omega)).trans pc
                    clear hz
                    go_simp
                    try with_reducible rfl
                  (try simp only [Act.put, List.getElem_toArray, List.getElem_cons_succ, List.getElem_cons_zero, List.setIfInBounds_toArray, List.set_cons_zero, List.set_cons_succ])
                  refine wpAnyH_take (i := 1) (v := ?_) rfl (by kernel_rfl) (by kernel_rfl) (by kernel_rfl) (fun _ _ _ h => h) (Or.inl ⟨by rfl, ?_⟩) (by assumption) ?_
                  rotate_left
                  · intro wz hz
                    have f5 := (hz.cell (p := ⟨w.heap.size + 1, 0, none⟩) (by dsimp only; omega)).trans p5
                    have f8 := (hz.cell (p := ⟨Bx, 0, none⟩) (by dsimp only; omega)).trans p8
                    have fc := (hz.cell (p := ⟨gq, i, none⟩) (by dsimp only; omega)).trans pc
                    clear hz
                    go_simp
                    try with_reducible rfl
                  (try simp only [Act.put, List.getElem_toArray, List.getElem_cons_succ, List.getElem_cons_zero, List.setIfInBounds_toArray, List.set_cons_zero, List.set_cons_succ])
                  refine wpAnyH_take (i := 2) (v := ?_) rfl (by kernel_rfl) (by kernel_rfl) (by kernel_rfl) (fun _ _ _ h => h) (Or.inl ⟨by rfl, ?_⟩) (by assumption) ?_
                  rotate_left
                  · intro wz hz
                    have f5 := (hz.cell (p := ⟨w.heap.size + 1, 0, none⟩) (by dsimp only; omega)).trans p5
                    have f8 := (hz.cell (p := ⟨Bx, 0, none⟩) (by dsimp only; omega)).trans p8
                    have fc := (hz.cell (p := ⟨gq, i, none⟩) (by dsimp only; omega)).trans pc
                    clear hz
                    go_simp
                    try with_reducible rfl
                  (try simp only [Act.put, List.getElem_toArray, List.getElem_cons_succ, List.getElem_cons_zero, List.setIfInBounds_toArray, List.set_cons_zero, List.set_cons_succ])
                  refine wpAnyH_take (i := 3) (v := ?_) rfl (by kernel_rfl) (by kernel_rfl) (by kernel_rfl) (fun _ _ _ h => h) (Or.inl ⟨by rfl, ?_⟩) (by assumption) ?_
                  rotate_left
                  · intro wz hz
                    have f5 := (hz.cell (p := ⟨w.heap.size + 1, 0, none⟩) (by dsimp only; omega)).trans p5
                    have f8 := (hz.cell (p := ⟨Bx, 0, none⟩) (by dsimp only; omega)).trans p8
                    have fc := (hz.cell (p := ⟨gq, i, none⟩) (by dsimp only; omega)).trans pc
                    clear hz
                    go_simp
                    try with_reducible rfl
                  (try simp only [Act.put, List.getElem_toArray, List.getElem_cons_succ, List.getElem_cons_zero, List.setIfInBounds_toArray, List.set_cons_zero, List.set_cons_succ])
                  refine wpAnyH_take (i := 4) (v := ?_) rfl (by kernel_rfl) (by kernel_rfl) (by kernel_rfl) (fun _ _ _ h => h) (Or.inl ⟨by rfl, ?_⟩) (by assumption) ?_
                  rotate_left
                  · intro wz hz
                    have f5 := (hz.cell (p := ⟨w.heap.size + 1, 0, none⟩) (by dsimp only; omega)).trans p5
                    have f8 := (hz.cell (p := ⟨Bx, 0, none⟩) (by dsimp only; omega)).trans p8
                    have fc := (hz.cell (p := ⟨gq, i, none⟩) (by dsimp only; omega)).trans pc
                    clear hz
                    go_simp
                    try with_reducible rfl
                  (try simp only [Act.put, List.getElem_toArray, List.getElem_cons_succ, List.getElem_cons_zero, List.setIfInBounds_toArray, List.set_cons_zero, List.set_cons_succ])
                  refine wpAnyH_take (i := 5) (v := ?_) rfl (by kernel_rfl) (by kernel_rfl) (by kernel_rfl) (fun _ _ _ h => h) (Or.inl ⟨by rfl, ?_⟩) (by assumption) ?_
                  rotate_left
                  · intro wz hz
                    have f5 := (hz.cell (p := ⟨w.heap.size + 1, 0, none⟩) (by dsimp only; omega)).trans p5
                    have f8 := (hz.cell (p := ⟨Bx, 0, none⟩) (by dsimp only; omega)).trans p8
                    have fc := (hz.cell (p := ⟨gq, i, none⟩) (by dsimp only; omega)).trans pc
                    clear hz
                    go_simp
                    try with_reducible rfl
                  (try simp only [Act.put, List.getElem_toArray, List.getElem_cons_succ, List.getElem_cons_zero, List.setIfInBounds_toArray, List.set_cons_zero, List.set_cons_succ])
                  refine wpAnyH_ready (rs := [6]) (by kernel_rfl) (by simp) (AllReadyH.cons rfl (fun K hK => ?_) AllReadyH.nil)
                  go_simp
                  refine (hhl.out _).mono ?_
                  rintro e wz ⟨rfl, rfl⟩
                  refine hK.out _ _ hHeld (fun _ => ?_)
                  clear hK K
                  (try simp only [Act.put, List.getElem_toArray, List.getElem_cons_succ, List.getElem_cons_zero, List.setIfInBounds_toArray, List.set_cons_zero, List.set_cons_succ])
                  refine wpAnyH_take (i := 7) (v := ?_) rfl (by kernel_rfl) (by kernel_rfl) (by kernel_rfl) (fun _ _ _ h => h) (Or.inl ⟨by rfl, ?_⟩) (by assumption) ?_
                  rotate_left
                  · intro wz hz
                    have f5 := (hz.cell (p := ⟨w.heap.size + 1, 0, none⟩) (by dsimp only; omega)).trans p5
                    have f8 := (hz.cell (p := ⟨Bx, 0, none⟩) (by dsimp only; omega)).trans p8
                    have fc := (hz.cell (p := ⟨gq, i, none⟩) (by dsimp only; omega)).trans pc
                    clear hz
                    go_simp
                    try with_reducible rfl
                  (try simp only [Act.put, List.getElem_toArray, List.getElem_cons_succ, List.getElem_cons_zero, List.setIfInBounds_toArray, List.set_cons_zero, List.set_cons_succ])
                  refine wpAnyH_take (i := 8) (v := ?_) rfl (by kernel_rfl) (by kernel_rfl) (by kernel_rfl) (fun _ _ _ h => h) (Or.inl ⟨by rfl, ?_⟩) (by assumption) ?_
                  rotate_left
                  · intro wz hz
                    have f5 := (hz.cell (p := ⟨w.heap.size + 1, 0, none⟩) (by dsimp only; omega)).trans p5
                    have f8 := (hz.cell (p := ⟨Bx, 0, none⟩) (by dsimp only; omega)).trans p8
                    have fc := (hz.cell (p := ⟨gq, i, none⟩) (by dsimp only; omega)).trans pc
                    clear hz
                    go_simp
                    try with_reducible rfl
                  (try simp only [Act.put, List.getElem_toArray, List.getElem_cons_succ, List.getElem_cons_zero, List.setIfInBounds_toArray, List.set_cons_zero, List.set_cons_succ])
                  refine wpAnyH_take (i := 9) (v := ?_) rfl (by kernel_rfl) (by kernel_rfl) (by kernel_rfl) (fun _ _ _ h => h) (Or.inl ⟨by rfl, ?_⟩) (by assumption) ?_
                  rotate_left
                  · intro wz hz
                    have f5 := (hz.cell (p := ⟨w.heap.size + 1, 0, none⟩) (by dsimp only; omega)).trans p5
                    have f8 := (hz.cell (p := ⟨Bx, 0, none⟩) (by dsimp only; omega)).trans p8
                    have fc := (hz.cell (p := ⟨gq, i, none⟩) (by dsimp only; omega)).trans pc
                    clear hz
                    go_simp
                    try with_reducible rfl
                  (try simp only [Act.put, List.getElem_toArray, List.getElem_cons_succ, List.getElem_cons_zero, List.setIfInBounds_toArray, List.set_cons_zero, List.set_cons_succ])
                  refine wpAnyH_take (i := 10) (v := ?_) rfl (by kernel_rfl) (by kernel_rfl) (by kernel_rfl) (fun _ _ _ h => h) (Or.inl ⟨by rfl, ?_⟩) (by assumption) ?_
                  rotate_left
                  · intro wz hz
                    have f5 := (hz.cell (p := ⟨w.heap.size + 1, 0, none⟩) (by dsimp only; omega)).trans p5
                    have f8 := (hz.cell (p := ⟨Bx, 0, none⟩) (by dsimp only; omega)).trans p8
                    have fc := (hz.cell (p := ⟨gq, i, none⟩) (by dsimp only; omega)).trans pc
                    clear hz
                    go_simp
                    try with_reducible rfl
                  (try simp only [Act.put, List.getElem_toArray, List.getElem_cons_succ, List.getElem_cons_zero, List.setIfInBounds_toArray, List.set_cons_zero, List.set_cons_succ])
                  refine wpAnyH_take (i := 11) (v := ?_) rfl (by kernel_rfl) (by kernel_rfl) (by kernel_rfl) (fun _ _ _ h => h) (Or.inl ⟨by rfl, ?_⟩) (by assumption) ?_
                  rotate_left
                  · intro wz hz
                    have f5 := (hz.cell (p := ⟨w.heap.size + 1, 0, none⟩) (by dsimp only; omega)).trans p5
                    have f8 := (hz.cell (p := ⟨Bx, 0, none⟩) (by dsimp only; omega)).trans p8
                    have fc := (hz.cell (p := ⟨gq, i, none⟩) (by dsimp only; omega)).trans pc
                    clear hz
                    go_simp
                    try with_reducible rfl
                  (try simp only [Act.put, List.getElem_toArray, List.getElem_cons_succ, List.getElem_cons_zero, List.setIfInBounds_toArray, List.set_cons_zero, List.set_cons_succ])
                  refine wpAnyH_take (i := 12) (v := ?_) rfl (by kernel_rfl) (by kernel_rfl) (by kernel_rfl) (fun _ _ _ h => h) (Or.inl ⟨by rfl, ?_⟩) (by assumption) ?_
                  rotate_left
                  · intro wz hz
                    have f5 := (hz.cell (p := ⟨w.heap.size + 1, 0, none⟩) (by dsimp only; omega)).trans p5
                    have f8 := (hz.cell (p := ⟨Bx, 0, none⟩) (by dsimp only; omega)).trans p8
                    have fc := (hz.cell (p := ⟨gq, i, none⟩) (by dsimp only; omega)).trans pc
                    clear hz
                    go_simp
                    try with_reducible rfl
                  (try simp only [Act.put, List.getElem_toArray, List.getElem_cons_succ, List.getElem_cons_zero, List.setIfInBounds_toArray, List.set_cons_zero, List.set_cons_succ])
                  refine wpAnyH_ready (rs := [13]) (by kernel_rfl) (by simp) (AllReadyH.cons rfl (fun K hK => ?_) AllReadyH.nil)
                  go_simp
                  refine (hwl.out _ (hBp.trans (hHeld.mono hBp.size))).mono ?_
                  rintro e wz ⟨u, c, rfl, hown, hbz⟩
                  refine hK.out _ _ (hHeld.trans (hbz.mono hHeld.size)) (fun hHeld2 => ?_)
                  clear hK K
                  (try simp only [Act.put, List.getElem_toArray, List.getElem_cons_succ, List.getElem_cons_zero, List.setIfInBounds_toArray, List.set_cons_zero, List.set_cons_succ])
                  refine wpAnyH_ready (rs := [14]) (by kernel_rfl) (by simp) (AllReadyH.cons rfl (fun K hK => ?_) AllReadyH.nil)
                  go_simp
                  refine (hi3.out _ _ _ _ (hBp.trans (hHeld2.mono hBp.size)) hown).mono ?_
                  rintro e wy ⟨rfl, hby⟩
                  refine hK.out _ _ (hHeld2.trans (hby.mono hHeld2.size)) (fun hHeld3 => ?_)
                  clear hK K
                  (try simp only [Act.put, List.getElem_toArray, List.getElem_cons_succ, List.getElem_cons_zero, List.setIfInBounds_toArray, List.set_cons_zero, List.set_cons_succ])
                  refine wpAnyH_take (i := 15) (v := ?_) rfl (by kernel_rfl) (by kernel_rfl) (by kernel_rfl) (fun _ _ _ h => h) (Or.inl ⟨by rfl, ?_⟩) (by assumption) ?_
                  rotate_left
                  · intro wz hz
                    have f5 := (hz.cell (p := ⟨w.heap.size + 1, 0, none⟩) (by dsimp only; omega)).trans p5
                    have f8 := (hz.cell (p := ⟨Bx, 0, none⟩) (by dsimp only; omega)).trans p8
                    have fc := (hz.cell (p := ⟨gq, i, none⟩) (by dsimp only; omega)).trans pc
                    clear hz
                    go_simp
                    try with_reducible rfl
                  (try simp only [Act.put, List.getElem_toArray, List.getElem_cons_succ, List.getElem_cons_zero, List.setIfInBounds_toArray, List.set_cons_zero, List.set_cons_succ])
                  refine wpAnyH_done (by kernel_rfl) ?_ _
                  refine OnlyN.normal ?_
                  gi_wp2_with fail
                  gi_meet
                  exact ⟨⟨by rw [hgv.out], hBp.trans (hHeld3.mono hBp.size)⟩, rfl, rfl, rfl, rfl, rfl, rfl⟩
                · have hgv : Hid (grA S (psN S M N) qL i l0 = false) := by
                    unfold Hid grA
                    rw [List.getD_eq_getElem?_getD, hxqh.out]
                    show (!hsB x (l0 : Int) && _) = _
                    rw [hh]
                    rfl
                  rw [hh] at hhl
                  refine wpIn_region_heldN (S := fun W => Below wp.heap.size wp W) (by kernel_rfl) (by kernel_rfl) (Below.drew (Below.refl _ _)) (fun hHeld => ?_)
                  refine wpAnyH_take (i := 0) (v := ?_) rfl (by kernel_rfl) (by kernel_rfl) (by kernel_rfl) (fun _ _ _ h => h) (Or.inl ⟨by rfl, ?_⟩) (by assumption) ?_
                  rotate_left
                  · intro wz hz
                    have f5 := (hz.cell (p := ⟨w.heap.size + 1, 0, none⟩) (by dsimp only; omega)).trans p5
                    have f8 := (hz.cell (p := ⟨Bx, 0, none⟩) (by dsimp only; omega)).trans p8
                    have fc := (hz.cell (p := ⟨gq, i, none⟩) (by dsimp only; omega)).trans pc
                    clear hz
                    go_simp
                    try with_reducible rfl
                  (try simp only [Act.put, List.getElem_toArray, List.getElem_cons_succ, List.getElem_cons_zero, List.setIfInBounds_toArray, List.set_cons_zero, List.set_cons_succ])
                  refine wpAnyH_take (i := 1) (v := ?_) rfl (by kernel_rfl) (by kernel_rfl) (by kernel_rfl) (fun _ _ _ h => h) (Or.inl ⟨by rfl, ?_⟩) (by assumption) ?_
                  rotate_left
                  · intro wz hz
                    have f5 := (hz.cell (p := ⟨w.heap.size + 1, 0, none⟩) (by dsimp only; omega)).trans p5
                    have f8 := (hz.cell (p := ⟨Bx, 0, none⟩) (by dsimp only; omega)).trans p8
                    have fc := (hz.cell (p := ⟨gq, i, none⟩) (by dsimp only; omega)).trans pc
                    clear hz
                    go_simp
                    try with_reducible rfl
                  (try simp only [Act.put, List.getElem_toArray, List.getElem_cons_succ, List.getElem_cons_zero, List.setIfInBounds_toArray, List.set_cons_zero, List.set_cons_succ])
                  refine wpAnyH_take (i := 2) (v := ?_) rfl (by kernel_rfl) (by kernel_rfl) (by kernel_rfl) (fun _ _ _ h => h) (Or.inl ⟨by rfl, ?_⟩) (by assumption) ?_
                  rotate_left
                  · intro wz hz
                    have f5 := (hz.cell (p := ⟨w.heap.size + 1, 0, none⟩) (by dsimp only; omega)).trans p5
                    have f8 := (hz.cell (p := ⟨Bx, 0, none⟩) (by dsimp only; omega)).trans p8
                    have fc := (hz.cell (p := ⟨gq, i, none⟩) (by dsimp only; omega)).trans pc
                    clear hz
                    go_simp
                    try with_reducible rfl
                  (try simp only [Act.put, List.getElem_toArray, List.getElem_cons_succ, List.getElem_cons_zero, List.setIfInBounds_toArray, List.set_cons_zero, List.set_cons_succ])
                  refine wpAnyH_take (i := 3) (v := ?_) rfl (by kernel_rfl) (by kernel_rfl) (by kernel_rfl) (fun _ _ _ h => h) (Or.inl ⟨by rfl, ?_⟩) (by assumption) ?_
                  rotate_left
                  · intro wz hz
                    have f5 := (hz.cell (p := ⟨w.heap.size + 1, 0, none⟩) (by dsimp only; omega)).trans p5
                    have f8 := (hz.cell (p := ⟨Bx, 0, none⟩) (by dsimp only; omega)).trans p8
                    have fc := (hz.cell (p := ⟨gq, i, none⟩) (by dsimp only; omega)).trans pc
                    clear hz
                    go_simp
                    try with_reducible rfl
                  (try simp only [Act.put, List.getElem_toArray, List.getElem_cons_succ, List.getElem_cons_zero, List.setIfInBounds_toArray, List.set_cons_zero, List.set_cons_succ])
                  refine wpAnyH_take (i := 4) (v := ?_) rfl (by kernel_rfl) (by kernel_rfl) (by kernel_rfl) (fun _ _ _ h => h) (Or.inl ⟨by rfl, ?_⟩) (by assumption) ?_
                  rotate_left
                  · intro wz hz
                    have f5 := (hz.cell (p := ⟨w.heap.size + 1, 0, none⟩) (by dsimp only; omega)).trans p5
                    have f8 := (hz.cell (p := ⟨Bx, 0, none⟩) (by dsimp only; omega)).trans p8
                    have fc := (hz.cell (p := ⟨gq, i, none⟩) (by dsimp only; omega)).trans pc
                    clear hz
                    go_simp
                    try with_reducible rfl
                  (try simp only [Act.put, List.getElem_toArray, List.getElem_cons_succ, List.getElem_cons_zero, List.setIfInBounds_toArray, List.set_cons_zero, List.set_cons_succ])
                  refine wpAnyH_take (i := 5) (v := ?_) rfl (by kernel_rfl) (by kernel_rfl) (by kernel_rfl) (fun _ _ _ h => h) (Or.inl ⟨by rfl, ?_⟩) (by assumption) ?_
                  rotate_left
                  · intro wz hz
                    have f5 := (hz.cell (p := ⟨w.heap.size + 1, 0, none⟩) (by dsimp only; omega)).trans p5
                    have f8 := (hz.cell (p := ⟨Bx, 0, none⟩) (by dsimp only; omega)).trans p8
                    have fc := (hz.cell (p := ⟨gq, i, none⟩) (by dsimp only; omega)).trans pc
                    clear hz
                    go_simp
                    try with_reducible rfl
                  (try simp only [Act.put, List.getElem_toArray, List.getElem_cons_succ, List.getElem_cons_zero, List.setIfInBounds_toArray, List.set_cons_zero, List.set_cons_succ])
                  refine wpAnyH_ready (rs := [6]) (by kernel_rfl) (by simp) (AllReadyH.cons rfl (fun K hK => ?_) AllReadyH.nil)
                  go_simp
                  refine (hhl.out _).mono ?_
                  rintro e wz ⟨rfl, rfl⟩
                  refine hK.out _ _ hHeld (fun _ => ?_)
                  clear hK K
                  (try simp only [Act.put, List.getElem_toArray, List.getElem_cons_succ, List.getElem_cons_zero, List.setIfInBounds_toArray, List.set_cons_zero, List.set_cons_succ])
                  refine wpAnyH_take (i := 7) (v := ?_) rfl (by kernel_rfl) (by kernel_rfl) (by kernel_rfl) (fun _ _ _ h => h) (Or.inl ⟨by rfl, ?_⟩) (by assumption) ?_
                  rotate_left
                  · intro wz hz
                    have f5 := (hz.cell (p := ⟨w.heap.size + 1, 0, none⟩) (by dsimp only; omega)).trans p5
                    have f8 := (hz.cell (p := ⟨Bx, 0, none⟩) (by dsimp only; omega)).trans p8
                    have fc := (hz.cell (p := ⟨gq, i, none⟩) (by dsimp only; omega)).trans pc
                    clear hz
                    go_simp
                    try with_reducible rfl
                  (try simp only [Act.put, List.getElem_toArray, List.getElem_cons_succ, List.getElem_cons_zero, List.setIfInBounds_toArray, List.set_cons_zero, List.set_cons_succ])
                  refine wpAnyH_take (i := 8) (v := ?_) rfl (by kernel_rfl) (by kernel_rfl) (by kernel_rfl) (fun _ _ _ h => h) (Or.inl ⟨by rfl, ?_⟩) (by assumption) ?_
                  rotate_left
                  · intro wz hz
                    have f5 := (hz.cell (p := ⟨w.heap.size + 1, 0, none⟩) (by dsimp only; omega)).trans p5
                    have f8 := (hz.cell (p := ⟨Bx, 0, none⟩) (by dsimp only; omega)).trans p8
                    have fc := (hz.cell (p := ⟨gq, i, none⟩) (by dsimp only; omega)).trans pc
                    clear hz
                    go_simp
                    try with_reducible rfl
                  (try simp only [Act.put, List.getElem_toArray, List.getElem_cons_succ, List.getElem_cons_zero, List.setIfInBounds_toArray, List.set_cons_zero, List.set_cons_succ])
                  refine wpAnyH_take (i := 9) (v := undef) rfl (by kernel_rfl) (by kernel_rfl) (by kernel_rfl) (fun _ _ _ h => h) (Or.inr ⟨by rfl, rfl⟩) (by assumption) ?_
                  (try simp only [Act.put, List.getElem_toArray, List.getElem_cons_succ, List.getElem_cons_zero, List.setIfInBounds_toArray, List.set_cons_zero, List.set_cons_succ])
                  refine wpAnyH_take (i := 10) (v := undef) rfl (by kernel_rfl) (by kernel_rfl) (by kernel_rfl) (fun _ _ _ h => h) (Or.inr ⟨by rfl, rfl⟩) (by assumption) ?_
                  (try simp only [Act.put, List.getElem_toArray, List.getElem_cons_succ, List.getElem_cons_zero, List.setIfInBounds_toArray, List.set_cons_zero, List.set_cons_succ])
                  refine wpAnyH_take (i := 11) (v := undef) rfl (by kernel_rfl) (by kernel_rfl) (by kernel_rfl) (fun _ _ _ h => h) (Or.inr ⟨by rfl, rfl⟩) (by assumption) ?_
                  (try simp only [Act.put, List.getElem_toArray, List.getElem_cons_succ, List.getElem_cons_zero, List.setIfInBounds_toArray, List.set_cons_zero, List.set_cons_succ])
                  refine wpAnyH_take (i := 12) (v := undef) rfl (by kernel_rfl) (by kernel_rfl) (by kernel_rfl) (fun _ _ _ h => h) (Or.inr ⟨by rfl, rfl⟩) (by assumption) ?_
                  (try simp only [Act.put, List.getElem_toArray, List.getElem_cons_succ, List.getElem_cons_zero, List.setIfInBounds_toArray, List.set_cons_zero, List.set_cons_succ])
                  refine wpAnyH_take (i := 13) (v := undef) rfl (by kernel_rfl) (by kernel_rfl) (by kernel_rfl) (fun _ _ _ h => h) (Or.inr ⟨by rfl, rfl⟩) (by assumption) ?_
                  (try simp only [Act.put, List.getElem_toArray, List.getElem_cons_succ, List.getElem_cons_zero, List.setIfInBounds_toArray, List.set_cons_zero, List.set_cons_succ])
                  refine wpAnyH_take (i := 14) (v := undef) rfl (by kernel_rfl) (by kernel_rfl) (by kernel_rfl) (fun _ _ _ h => h) (Or.inr ⟨by rfl, rfl⟩) (by assumption) ?_
                  (try simp only [Act.put, List.getElem_toArray, List.getElem_cons_succ, List.getElem_cons_zero, List.setIfInBounds_toArray, List.set_cons_zero, List.set_cons_succ])
                  refine wpAnyH_take (i := 15) (v := ?_) rfl (by kernel_rfl) (by kernel_rfl) (by kernel_rfl) (fun _ _ _ h => h) (Or.inl ⟨by rfl, ?_⟩) (by assumption) ?_
                  rotate_left
                  · intro wz hz
                    have f5 := (hz.cell (p := ⟨w.heap.size + 1, 0, none⟩) (by dsimp only; omega)).trans p5
                    have f8 := (hz.cell (p := ⟨Bx, 0, none⟩) (by dsimp only; omega)).trans p8
                    have fc := (hz.cell (p := ⟨gq, i, none⟩) (by dsimp only; omega)).trans pc
                    clear hz
                    go_simp
                    try with_reducible rfl
                  (try simp only [Act.put, List.getElem_toArray, List.getElem_cons_succ, List.getElem_cons_zero, List.setIfInBounds_toArray, List.set_cons_zero, List.set_cons_succ])
                  refine wpAnyH_done (by kernel_rfl) ?_ _
                  refine OnlyN.normal ?_
                  gi_wp2_with fail
                  gi_meet
                  exact ⟨⟨by rw [hgv.out], hBp.trans (hHeld.mono hBp.size)⟩, rfl, rfl, rfl, rfl, rfl, rfl⟩
              obtain ⟨⟨rfl, hb3⟩, rfl, rfl, rfl, rfl, rfl, rfl⟩ := hcut
              obtain ⟨w3, rfl⟩ : ∃ x : World, x = wc := ⟨_, rfl⟩
              clear p5 p8 p8i pc
              cases hgv : grA S (psN S M N) qL i l0
              · have hgn2 : Hid (∀ l', l' < l0 + 1 → grA S (psN S M N) qL i l' = false) := fun l' hl' => by
                  rcases Nat.lt_succ_iff_lt_or_eq.1 hl' with h | rfl
                  · exact hgl.out l' h
                  · exact hgv
                gi_wp2
                go_roundw
                case rel => exact ⟨l0 + 1, by omega, by push_cast; rfl, hgn2.out, hb3⟩
                case measure =>
                  show (lvA S i).toNat - ((l0 : Int) + 1).toNat < (lvA S i).toNat - (l0 : Int).toNat
                  omega
              · have hmx := mx_no2 (gr_hit (by have := hlq.out; omega) hll hgv)
                gi_wp2
                refine rowPost_on (KeepsFrom.of_grownBy (grown_belowE hb3) (by intro j hj; cases hj)) ⟨(hb3).mono h4h.out.size, (hb3).size, fun k cs t fz hk _ _ => (hb3).block k (Array.getElem?_eq_some_iff.1 hk).1⟩ ⟨⟨⟨⟨?_, boxed_below h2h.out hb3⟩, boxed_below h3h.out hb3⟩, h4h.out.trans ((hb3).mono h4h.out.size)⟩, Nat.le_trans h5 (hb3).size, h6⟩
                obtain ⟨u, T, k1, k2, k3, k4⟩ := hM1h.out
                refine ⟨u, T, boxed_below k1 hb3, k2.below hb3, ?_, fun p hp => List.mem_append_left _ (k4 p hp)⟩
                rw [eM_app, List.filter_append, k3]
                show _ = _ ++ List.filter _ [qL]
                rw [List.filter_cons_of_neg (by rw [hmx]; exact Bool.false_ne_true), List.filter_nil, List.append_nil]
            · have hlx : (l0 : Int) = lvA S i := by omega
              have hgi := Lib.hid (grI_no (P := psN S M N) (E := qL) (i := i) (fun l' hl' => hgl.out l' (by omega)))
              have hall2 : Hid (∀ j, j < i + 1 → grI S (psN S M N) qL j = false) := fun j hj => by
                rcases Nat.lt_succ_iff_lt_or_eq.1 hj with h | rfl
                · exact hall.out j h
                · exact hgi.out
              gi_wp2
              refine ⟨⟨i + 1, by omega, by push_cast; rfl, hall2.out, hbr2⟩, ?_⟩
              show S.length - ((i : Int) + 1).toNat < S.length - (i : Int).toNat
              omega
        · have hij : i = S.length := by omega
          subst hij
          have hgn := Lib.hid (gr_no (P := psN S M N) (E := qL) (fun j hj => hall.out j (by have := hlq.out; omega)))
          obtain ⟨u, T, k1, k2, k3, k4⟩ := hM1h.out
          have K1 := boxed_below k1 hbr
          have K2 := k2.below hbr
          obtain ⟨xv, cv, rfl, -, -⟩ := (OwR.of K2.1).form
          have hTl : T.length < 1000000 := by
            have h0 := congrArg List.length k3
            have h1 := List.length_filter_le (mxB S (psN S M N)) (eM pre)
            rw [eM_len] at h0
            omega
          have hc := K1.cell
          have hWb2 := wb_kept hWbh.out (grown_belowE hbr) (by intro r e; cases e)
          have e8 := hWb2.read 0
          have e8i := hWb2.inside
          have hqr := own_below hrowh.out hbr
          have hhiw : hi ≤ wo.heap.size := by
            obtain ⟨gq, cq, e⟩ := own_some hqr (by have := hlq.out; have := (schB_len hsh.out).1; omega)
            have h0 := hqr
            rw [e] at h0
            have h1 := own_lt h0
            omega
          have hszw : w.heap.size ≤ wo.heap.size := Nat.le_trans h4h.out.size hbr.size
          have k3h := Lib.hid k3
          have k4h := Lib.hid k4
          have K1h := Lib.hid K1
          have K2h := Lib.hid K2
          have hqrh := Lib.hid hqr
          have hbrh := Lib.hid hbr
          clear hall k1 k2 k3 k4 K1 K2 hWb2 hqr hbr
          gi_wp2_with (gi_at_builtin; refine wpListIn_append_own _ rfl _ _ 31 rfl hi 90 j0 (.agg #[.slice none 0 0]) 1 24 Try.underlying31 hif hy0 hy1 hy2 rfl (by decide) _ _ _ rfl (K2h.out.1.alloc _) ⟨wo.heap.size, 0, none⟩ 1 1 [.slice (some ⟨gq, 0, none⟩) qL.length qc] rfl rfl (cell_one_new _ _ _) (by simp [Value.oneCell']) (by unfold maxLen; omega) (by omega) (by simp; omega) ?_; intro v' w1 hown' hgrow _; obtain ⟨g', cap', rfl⟩ := ownsRow_succ hown'; obtain ⟨hv1, hv2, -, hk2, hb2⟩ := K1h.out.appended (n₀ := w.heap.size) (by decide) (own_more K2h.out.1 (by omega)) hszw (by omega) (own_more hown' (by omega)) hgrow; have hO := K2h.out.snocN (q := ⟨qa, qh, some ⟨gq, 0, none⟩, qc, qL⟩) hgrow hown' hqrh.out (fun p hp k hk => hndh.out p (k4h.out p hp) k hk); have hc1 := hv1.cell; have hf1 := hv1.frozen)
          have hkeep : ∀ k, k < X.heap.size → k < hi → k ≠ w.heap.size + 1 + 1 → (w1.setCell ⟨w.heap.size + 1 + 1, 0, none⟩ (.slice (some ⟨g', 0, none⟩) (T.length + 1) cap')).heap[k]? = X.heap[k]? := fun k hX hkh hne => by
            have hXw := hbrh.out.size
            have hw1 := hgrow.size
            rw [World.size_alloc] at hw1
            exact ((grownBy_setCell' w1 _ _).block k (by omega) (fun e => hne (by injection e))).trans ((hgrow.block k (by rw [World.size_alloc]; omega) (fun e => by have := (K2h.out.1.lt k e.symm).1; omega)).trans ((Below.heap_alloc wo _ k (by omega)).trans (hbrh.out.block k hX)))
          have hbX : Below w.heap.size X (w1.setCell ⟨w.heap.size + 1 + 1, 0, none⟩ (.slice (some ⟨g', 0, none⟩) (T.length + 1) cap')) := (hbrh.out.mono h4h.out.size).trans hb2
          refine rowPost_on ((KeepsFrom.of_grownBy (grown_belowE hbrh.out) (by intro j hj; cases hj)).trans (hk2.from _)) ⟨hbX, hbX.size, fun k cs t fz hk hkh hne => hkeep k (Array.getElem?_eq_some_iff.1 hk).1 hkh hne⟩ ⟨⟨⟨⟨⟨_, T ++ [⟨qa, qh, some ⟨gq, 0, none⟩, qc, qL⟩], hv2, hO.set (p := ⟨w.heap.size + 1 + 1, 0, none⟩) hv1 (by decide) (by decide) _, ?_, ?_⟩, (hkeep _ h2h.out.lt (by omega) (by omega)).trans h2h.out⟩, (hkeep _ h3h.out.lt (by omega) (by omega)).trans h3h.out⟩, h4h.out.trans hbX⟩, Nat.le_trans h5 hbX.size, h6⟩
          · rw [eM_app, eM_app, List.filter_append, k3h.out]
            show _ ++ [qL] = _ ++ List.filter _ [qL]
            rw [List.filter_cons_of_pos (mx_yes hvh.out hgn.out), List.filter_nil]
          · intro p hp
            rcases List.mem_append.1 hp with h | h
            · exact List.mem_append_left _ (k4h.out p h)
            · exact List.mem_append_right _ h
  case done =>
    rintro hi ys X hSy ⟨⟨⟨⟨hM1, h2⟩, h3⟩, h4⟩, h5, h6⟩ hK
    obtain ⟨u, T, k1, k2, k3, -⟩ := hM1
    have c1' := k1.cell
    have hSh2 := Lib.hid hSy
    have k3h := Lib.hid k3
    have hKh := Lib.hid hK
    clear hSy k3 hK
    go_wp2
    try rw [Exit.noGoto_ret]
    refine ⟨by simp, .inl ⟨_, _, rfl, run_takeDeferred hKh.out, ?_⟩⟩
    exact ⟨_, results_tmp rfl _ _ _, u, T, rfl, by rw [k3h.out, hSh2.out], (k2.keep (grownBy_putObj' X _ _) (fun k hk => .inl (by injection hk with hk; subst hk; exact ⟨_, hKh.out, rfl⟩))).more (by omega), h4.trans (belowK_b (w := w) (Nat.le_refl _) _ W0.heap.size _ _ (by omega) hKh.out rfl rfl)⟩
  case stop =>
    rintro hi pre X h _
    exact h.elim
end Go.Proofs.Ytgkaalonmkcclab
