import Derived.Test.YtnmpigedhpdenabKit
import Derived.CallsIn
import Derived.OrdersHeld
import Derived.OrdersIn
import Derived.RangeFuncCalls
import Derived.Deep.RegionHeld
import Derived.Test.YtnmpigedhpdenabPfB
import Derived.Test.YtnmpigedhpdenabShelf
import Derived.Laws.CopyOwn
import Derived.Test.YtnmpigedhpdenabSchN
import Derived.Test.YtnmpigedhpdenabApp
import Derived.Deep.AppendLies
import Derived.Deep.RegionLaw
namespace Go.Proofs.Ytnmpigedhpdenab

/-- The post, where a region ends as it should, and nothing else. -/
def OnlyN (Q : Exit → Act → World → Prop) : Exit → Act → World → Prop
  | .normal, a, w => Q .normal a w
  | _, _, _ => False

theorem OnlyN.normal {Q : Exit → Act → World → Prop} {a : Act} {w : World} (h : Q .normal a w) : OnlyN Q .normal a w := h
def noDefer (ops : Array Oper) : Bool := ops.all fun o => match o.op with | .defer _ => false | _ => true
theorem noDefer_spec {ops : Array Oper} (h : noDefer ops = true) (i : Nat) (o : Oper) (c : Call) (ho : ops[i]? = some o) : o.op ≠ .defer c := by
  intro heq
  have := Array.all_eq_true_iff_forall_mem.1 h o (Array.mem_of_getElem? ho)
  simp [heq] at this

theorem opsIn_of {P : Program} {ops : Array Oper} {Q : Exit → Act → World → Prop} {l n : Nat} (hd : noDefer ops = true) :
    ∀ (L : List Nat) (a : Act) (w : World), wpOps P ops (OnlyN Q) L a w → wpOpsIn (Fence.wide.inRound l) n P ops Q L a w := by
  intro L
  induction L with
  | nil => exact fun a w h => h
  | cons i rest ih =>
    intro a w h
    simp only [wpOps, wpOpsIn] at h ⊢
    cases ho : ops[i]? with
    | none =>
      simp only [ho] at h ⊢
      exact ih _ _ h
    | some o =>
      simp only [ho] at h ⊢
      by_cases hw : Region.wanted o (yielded ops a.tmps) = true
      · rw [if_pos hw] at h ⊢
        rcases h with h | ⟨_, a', w', hl⟩
        · refine ⟨fun _ _ => trivial, ?_⟩
          rw [Oper.semAt_eq _ _ _ (fun c => noDefer_spec hd i o c ho)]
          unfold Oper.wp at h
          generalize (execOp a.eval o).run P w = r at h ⊢
          cases r with
          | ok x w' =>
            cases x <;> simp only [Oper.upon, Oper.uponIn] at h ⊢
            case value v => exact ih _ _ h
            case skip => exact ih _ _ h
            case defer d => exact ih _ _ h
            case enter f args =>
              refine ⟨fun hx => by simp [Fence.wide] at hx, ?_⟩
              refine (CallsIn.inRound l (callsIn_wide.2 h)).mono ?_
              intro e w'' he
              cases e with
              | returned v => exact ih _ _ he
              | panicked c => exact he.elim
              | outgrown => exact (he.elim fun _ h1 => h1.elim fun _ h2 => h2.elim)
            case row row args =>
              refine ⟨fun hx => by simp [Fence.wide] at hx, ?_⟩
              intro c cs _
              obtain ⟨v, w'', hv, hs⟩ := h c cs
              exact ⟨v, w'', ih _ _ hv, (StepsIn.of_steps hs).mono fun m _ => fenced_wide P m⟩
          | halt x w' =>
            cases x <;> simp only [Oper.upon, Oper.uponIn] at h ⊢
            case panic v => exact h.elim
        · exact hl.elim
      · rw [if_neg hw] at h ⊢
        exact ⟨fun _ _ => trivial, ih _ _ h⟩

theorem wpIn_region_heldN {P : Program} {id l n : Nat} {ops : Array Oper} {Q : Exit → Act → World → Prop} {S : World → Prop} {a : Act} {w : World}
    (hm : P.follows .mixedOrders = true) (hd : noDefer ops = true) (hS : S w.drew)
    (h : S w.drew → wpAnyH P .any ops (OnlyN Q) S ops.size (Array.replicate ops.size false) a w.drew) :
    (Code.region id ops true).wpIn (Fence.wide.inRound l) n P Q a w :=
  wpIn_region_draw fun t => by
    simp only [Region.schedule, hm, Bool.true_or, if_true]
    exact opsIn_of hd _ _ _ (wpAny_sound ops.size t _ a _ (wpAny_of_held _ _ _ _ (h hS)))
end Go.Proofs.Ytnmpigedhpdenab

namespace Go.Proofs.Ytnmpigedhpdenab
open Go.RowKit Go.Shelf
set_option maxRecDepth 100000

/-- An edit in a row of its own, handed back. -/
def WlPost (n : Nat) (L : List Int) (w : World) (e : Ending) (w' : World) : Prop := ∃ u c, e = .returned (.agg #[.slice u n c]) ∧ w'.ownsRow w.heap.size 3 1 (.slice u n c) n (iC L) ∧ Below w.heap.size w w'
set_option maxHeartbeats 2000000 in
theorem withLevel_any (z : Option Addr) (cz : Nat) (S : List (ByteArray × Int)) (E : List Int) (i l : Nat) (w : World) (hs : schB S = true) (hE : edB S E = true) (hi : i < S.length) (hl : (l : Int) < lvA S i) (hz : Rd w z (iC E)) (hcz : E.length ≤ cz) :
    Calls Try.prog 205 #[.agg #[.slice z E.length cz], .int .i64 i, .int .i64 l] w (WlPost E.length (wlL E i l) w) := by
  have hlE := ed_len hE
  have hl6 := (schB_len hs).2
  obtain ⟨nm, lv, xv, hSi, hEi, x1, x2, y1, y2, x3⟩ := ed_at hs hE hi
  obtain ⟨bl, off, xv', rfl, hbl, hEi2, hc0⟩ := hz.int (i := i) (by omega)
  obtain rfl := Option.some.inj (hEi2.symm.trans hEi)
  obtain ⟨p1, p2⟩ := pw_bd hl
  have hp255 := flZ_bd (lvA_bd hs hi)
  have hor := or_jo (x := xv') (y := 2 ^ l) (by omega) (by omega) (by omega) (by omega)
  have hww : wrap64 (2 ^ l : Int) = 2 ^ l := IntWalk.wrap64_in _ (by omega)
  have hst := Lib.hid (wl_at l hEi)
  have hEih := Lib.hid hEi
  have hlE6 : E.length ≤ 6 := by omega
  have hl7 : l ≤ 7 := by have := (lvA_bd hs hi).2; omega
  have hil : i < E.length := by omega
  have hi' : (i : Int) < (E.length : Int) := by omega
  have hi0 : (0 : Int) ≤ (i : Int) := by omega
  have hl0 : (0 : Int) ≤ (l : Int) := by omega
  have hq := Lib.hid (QB.new w (some ⟨bl, off, none⟩) E.length cz 153)
  have hb0 : Below w.heap.size w ((w.alloc (.cells #[.slice (some ⟨bl, off, none⟩) E.length cz] 153)).alloc (.cells #[.slice none 0 0] 153)) := (by repeat (first | exact Below.refl _ _ | assumption | refine Below.drew ?_ | refine below_drewN ?_ _ | refine Below.alloc' ?_ _ | (refine Below.setCell ?_ (by first | omega | (simp; done) | (simp; omega) | exact Below.size (by assumption) | exact Nat.le_trans (Below.size (by assumption)) (by simp)) _) | (refine Below.via' ?_ (by assumption)) | (refine Below.alloc ?_ (by first | omega | (simp; done) | (simp; omega) | exact Below.size (by assumption) | exact Nat.le_trans (Below.size (by assumption)) (by simp)) _) | (refine Below.via ?_ (by assumption) (by first | omega | (simp; done) | (simp; omega) | exact Below.size (by assumption) | exact Nat.le_trans (Below.size (by assumption)) (by simp)))))
  have hb01 : Below (w.alloc (.cells #[.slice (some ⟨bl, off, none⟩) E.length cz] 153)).heap.size (w.alloc (.cells #[.slice (some ⟨bl, off, none⟩) E.length cz] 153)) ((w.alloc (.cells #[.slice (some ⟨bl, off, none⟩) E.length cz] 153)).alloc (.cells #[.slice none 0 0] 153)) := (Below.refl _ _).alloc (Nat.le_refl _) _
  have hRes : Wb ((w.alloc (.cells #[.slice (some ⟨bl, off, none⟩) E.length cz] 153)).alloc (.cells #[.slice none 0 0] 153)) (w.heap.size + 1) 153 #[.slice none 0 0] := by
    have h0 := Wb.new (w.alloc (.cells #[.slice (some ⟨bl, off, none⟩) E.length cz] 153)) 153 #[.slice none 0 0]
    rwa [World.size_alloc] at h0
  have hq1 := hq.out.below hb01
  obtain ⟨W1, hW1⟩ : ∃ W1, (w.alloc (.cells #[.slice (some ⟨bl, off, none⟩) E.length cz] 153)).alloc (.cells #[.slice none 0 0] 153) = W1 := ⟨_, rfl⟩
  rw [hW1] at hb0 hRes hq1
  have hzh := Lib.hid (hz.below hb0)
  have hs1 : W1.heap.size = w.heap.size + 2 := by rw [← hW1]; simp
  clear hEi2 hEi hSi hc0 hs hE hz hb01 hq hlE
  obtain ⟨ka, kb, kc⟩ := hq1
  have hW1h := Lib.hid hW1
  clear hW1
  go_enter Try.func205, Try.ntmps205
  go_wp2_with fail
  rw [hW1h.out]
  refine (cloneInt_any _ cz E W1 (by omega) hcz (by intro h; cases h) hzh.out).mono ?_
  rintro e w3 ⟨u3, rfl, ho3, hb3⟩
  obtain ⟨g3, c3, rfl⟩ := own_some ho3 (by omega)
  have hlow3 := own_lt ho3
  obtain ⟨u0, hu0, f0⟩ := own_cell ho3 (j := i) (by omega)
  obtain rfl : u0 = .int .i64 xv' := Option.some.inj (hu0.symm.trans (iC_at hEih.out))
  have k2 := ho3.frozenAt i
  have hsto := Lib.hid (ho3.stored i (.int .i64 (joI xv' (2 ^ l)))).1
  have R3 := hRes.kept hb3
  have r1 := R3.read 0
  have r2 := R3.free 0
  have r3 := R3.inside
  have hB3 : Below w.heap.size w w3 := hb0.trans (hb3.mono hb0.size)
  have hR3h := Lib.hid R3
  have hne : w.heap.size + 1 ≠ g3 := by omega
  clear hu0 ho3 R3 hb3
  go_wp2
  go_region
  all_goals
    have hwl : Hid ((iC E).set i (.int .i64 (joI xv' (2 ^ l))) = iC (wlL E i l)) := by unfold Hid; rw [hst.out]; unfold iC; rw [List.map_set]
    have hval : bits .or .i64 xv' (wrap64 (2 ^ min l 64)) = joI xv' (2 ^ l) := by rw [show min l 64 = l by omega, hww, hor]
    go_wp2_with fail
    try rw [hval]
    refine bodyPost_ret (v := .agg #[.slice (some ⟨g3, 0, none⟩) E.length c3]) (by simp [results, Try.results205, go_sem, *]) rfl ⟨_, _, rfl, ?_, ?_⟩
    · have h0 := hsto.out
      rw [hwl.out] at h0
      exact (own_more (h0.kept (grownBy_setCell' _ _ _) (.inr (fun e => hne (by injection e with e; exact e.symm)))) hb0.size).drew
    · exact Below.drew ((hB3.setCell (p := ⟨g3, i, none⟩) (by show w.heap.size ≤ g3; omega) _).setCell (p := ⟨w.heap.size + 1, 0, none⟩) (by show w.heap.size ≤ w.heap.size + 1; omega) _)
/-- A row that begins with ones. -/
def onL (n m : Nat) : List Int := List.replicate n 1 ++ List.replicate (m - n) 0
theorem on_len {n m : Nat} (h : n ≤ m) : (onL n m).length = m := by unfold onL; simp; omega
theorem made_on (n : Nat) : (madeCells (Value.int .i64 0).cells (n * 1)).toList = iC (onL 0 n) := by
  apply List.ext_getElem?
  intro j
  unfold iC onL
  rw [List.replicate_zero, List.nil_append, Nat.sub_zero, List.map_replicate, List.getElem?_replicate]
  by_cases h : j < n
  · simp [madeCells, Value.cells, h, Nat.mod_one]
  · simp [madeCells, Value.cells, h]
theorem on_full (m : Nat) : onL m m = List.replicate m 1 := by unfold onL; simp
theorem on_at {n m j : Nat} (h : j < n) : (onL n m)[j]? = some 1 := by
  unfold onL
  rw [List.getElem?_append_left (by rw [List.length_replicate]; exact h), List.getElem?_replicate, if_pos h]
theorem on_cells (n m : Nat) : iC (onL n m) = List.replicate n (Value.int .i64 1) ++ List.replicate (m - n) (Value.int .i64 0) := by unfold iC onL; rw [List.map_append, List.map_replicate, List.map_replicate]
theorem on_splice {n k m : Nat} (h : n + k ≤ m) : splice (iC (onL n m)) n (iC (List.replicate k 1)) = iC (onL (n + k) m) := by
  have e1 : (List.replicate n (Value.int .i64 1) ++ List.replicate (m - n) (Value.int .i64 0)).take n = List.replicate n (Value.int .i64 1) := by rw [List.take_append_of_le_length (by simp), List.take_of_length_le (by simp)]
  have e2 : (List.replicate n (Value.int .i64 1) ++ List.replicate (m - n) (Value.int .i64 0)).drop (n + k) = List.replicate (m - (n + k)) (Value.int .i64 0) := by
    rw [List.drop_append, List.drop_eq_nil_of_le (by simp), List.length_replicate, List.nil_append, List.drop_replicate]
    congr 1
    omega
  have e3 : iC (List.replicate k 1) = List.replicate k (Value.int .i64 1) := by unfold iC; rw [List.map_replicate]
  unfold splice
  rw [e3, List.length_replicate, on_cells, on_cells, e1, e2, ← List.append_assoc, List.replicate_append_replicate]
theorem own_heapL {w : World} {base e g n : Nat} {xs : List Value} (h : w.ownsRow base e 1 (.slice (some ⟨g, 0, none⟩) n n) n xs) : w.heap[g]? = some (.cells xs.toArray e (0, 0)) := by
  rcases h.2 with ⟨h1, _⟩ | ⟨g', cap, cur, hv, _, hg, _, _, hs, ht⟩
  · cases h1
  · injection hv with h1 h2 h3
    injection h1 with h1
    injection h1 with h1
    subst h1 h3
    rw [hg, ← ht]
    congr 2
    rw [List.take_of_length_le (by rw [Array.length_toList, hs]; exact Nat.le_refl _)]
theorem own_of_heapL {w : World} {base e g n : Nat} {xs : List Value} (hg : w.heap[g]? = some (.cells xs.toArray e (0, 0))) (hb : base ≤ g) (hl : xs.length = n) (hm : n ≤ maxLen) : w.ownsRow base e 1 (.slice (some ⟨g, 0, none⟩) n n) n xs :=
  ⟨by omega, .inr ⟨g, n, xs.toArray, rfl, hb, hg, Nat.le_refl _, hm, by simp [hl], by simp [← hl]⟩⟩
end Go.Proofs.Ytnmpigedhpdenab

namespace Go.Proofs.Ytnmpigedhpdenab
open Go.RowKit Go.Shelf
set_option maxRecDepth 100000

/-- The search in memory: its schema, the lists of values that pass, the eliminated variable, what was found. -/
def SrI (S : List (ByteArray × Int)) (M : List (List Int)) (N : Nat) (v : Int) (x : Option Addr) (c lo : Nat) (w : World) (g : Nat) (u : Value) : Prop :=
  ∃ (y : Option Addr) (d : Nat) (T : List PR), Wb w g 187 #[.slice x S.length c, .slice y T.length d, .int .i64 v, u] ∧ w.ownsRow lo 23 1 (.slice y T.length d) T.length (eC T) ∧ (∀ q ∈ T, w.ownsRow lo 3 1 q.v q.L.length (iC q.L)) ∧ eM T = psL S M N
section
variable {S : List (ByteArray × Int)} {M : List (List Int)} {N : Nat} {v : Int} {x : Option Addr} {c lo g : Nat} {w w' : World} {u : Value}
theorem SrI.k1 (h : SrI S M N v x c lo w g u) (k : KxT 153 153 w w') : SrI S M N v x c lo w' g u := by
  obtain ⟨y, d, T, h1, h2, h3, h4⟩ := h
  exact ⟨y, d, T, (k.2 g _ _ _ h1 (by decide) (by decide)).trans h1, k.own h2 (by decide) (by decide), fun q hq => k.own (h3 q hq) (by decide) (by decide), h4⟩
theorem SrI.below (h : SrI S M N v x c lo w g u) (hb : Below w.heap.size w w') : SrI S M N v x c lo w' g u := h.k1 (KxT.of_below hb)
theorem SrI.inside (h : SrI S M N v x c lo w g u) : g < w.heap.size := by
  obtain ⟨y, d, T, h1, _⟩ := h
  exact h1.inside
theorem SrI.blk (h : SrI S M N v x c lo w g u) : ∃ (cs : Array Value) (fz : Nat × Nat), w.heap[g]? = some (Obj.cells cs 187 fz) := by
  obtain ⟨y, d, T, h1, _⟩ := h
  exact ⟨_, _, h1⟩
theorem SrI.put (h : SrI S M N v x c lo w g u) (u' : Value) : SrI S M N v x c lo (w.setCell ⟨g, 3, none⟩ u') g u' := by
  obtain ⟨y, d, T, h1, h2, h3, h4⟩ := h
  have k : KxT 187 187 w (w.setCell ⟨g, 3, none⟩ u') := KxT.of_set (p := ⟨g, 3, none⟩) h1 u'
  exact ⟨y, d, T, h1.put 3 u', k.own h2 (by decide) (by decide), fun q hq => k.own (h3 q hq) (by decide) (by decide), h4⟩
end
theorem ed_iin {S : List (ByteArray × Int)} {E : List Int} {w : World} {z : Option Addr} (hs : schB S = true) (hE : edB S E = true) (hr : Rd w z (iC E)) : IIn w z E := by
  have hl := ed_len hE
  have h6 := (schB_len hs).2
  refine ⟨by omega, fun n hn => ?_, hr⟩
  obtain ⟨j, hj, e⟩ := List.getElem_of_mem hn
  obtain ⟨nm, lv, y, a, b, h1, h2, _, _, h3⟩ := ed_at hs hE (i := j) (by omega)
  rw [List.getElem?_eq_getElem hj, e] at b
  cases b
  unfold IsI64
  omega
set_option maxHeartbeats 2000000 in
theorem free_any (g : Nat) (x z : Option Addr) (c cz lo : Nat) (S : List (ByteArray × Int)) (M : List (List Int)) (N : Nat) (v : Int) (u : Value) (E : List Int) (w : World) (hN2 : N ≤ 262144) (hs : schB S = true) (hE : edB S E = true) (hI : SrI S M N v x c lo w g u) (hz : Rd w z (iC E)) :
    Calls Try.prog 201 #[.pointer (some ⟨g, 0, none⟩), .slice z E.length cz] w fun e w' => e = .returned (.bool (imV S (psN S M N) E)) ∧ Below w.heap.size w w' := by
  obtain ⟨y, d, T, hW, hrow, hin, hM⟩ := hI
  have hTl : T.length ≤ 1048576 := by have h0 := psL_len S M N; rw [← hM, eM_len] at h0; omega
  have hTh := Lib.hid (show EIn w y T from ⟨hTl, ps_iin hs hM hin, Rd.of_own hrow⟩)
  have hMh := Lib.hid hM
  have hsh := Lib.hid hs
  have hEh := Lib.hid hE
  have hzh := Lib.hid (ed_iin hs hE hz)
  have k1 := (hW.read 1).trans rfl
  have k2 := hW.inside
  clear hrow hin hM hs hE hz hW
  go_enter Try.func201, Try.ntmps201
  go_wp2
  go_loopw [12] (fun c2 wr => ∃ i : Nat, i ≤ T.length ∧ c2 = .int .i64 i ∧ Hid (∀ j, j < i → ∃ V, (eM T)[j]? = some V ∧ fsB E V = false) ∧ Below w.heap.size w wr) (fun c2 _ => T.length - (intOf c2).toNat)
  case atStart => exact ⟨0, by omega, rfl, (fun j hj => absurd hj (by omega)), Below.refl _ _⟩
  case round =>
    obtain ⟨i, hi, rfl, hall, hBr⟩ := hrel
    by_cases hlt : i < T.length
    · obtain ⟨bl, off, q, rfl, hbl, hQq, hc0⟩ := (hTh.out.below hBr).2.2.ed hlt
      have hqi := Lib.hid ((hTh.out.2.1 q (List.mem_of_getElem? hQq)).below hBr)
      have hqe := Lib.hid (eM_at hQq)
      have hk : ∃ k : Nat, k ∈ psN S M N ∧ q.L = atL S (k : Int) := by
        have h1 := hqe.out
        rw [hMh.out] at h1
        unfold psL at h1
        obtain ⟨k, hk, e⟩ := List.mem_map.1 (List.mem_of_getElem? h1)
        exact ⟨k, hk, e.symm⟩
      obtain ⟨k, hkm, hkL⟩ := hk
      have hfi := Lib.hid (show Fine E q.L by rw [hkL]; exact fine_of hsh.out hEh.out (at_fitE hsh.out (by omega)))
      have hkmh := Lib.hid hkm
      have hkLh := Lib.hid hkL
      have hlt' : (i : Int) < (T.length : Int) := by omega
      clear hQq hkm hkL
      cases hh : fsB E q.L
      · have hhh := Lib.hid hh
        go_wp2_with fail
        refine (eFails_any _ _ _ _ E q.L _ hfi.out (hzh.out.below hBr) hqi.out).mono ?_
        rintro e w3 ⟨rfl, hb3⟩
        rw [hh]
        go_wp2
        go_roundw
        case rel =>
          refine ⟨i + 1, by omega, by go_num, fun j hj => ?_, (by repeat (first | exact Below.refl _ _ | assumption | refine Below.drew ?_ | refine below_drewN ?_ _ | refine Below.alloc' ?_ _ | (refine Below.setCell ?_ (by first | omega | (simp; done) | (simp; omega) | exact Below.size (by assumption) | exact Nat.le_trans (Below.size (by assumption)) (by simp)) _) | (refine Below.via' ?_ (by assumption)) | (refine Below.alloc ?_ (by first | omega | (simp; done) | (simp; omega) | exact Below.size (by assumption) | exact Nat.le_trans (Below.size (by assumption)) (by simp)) _) | (refine Below.via ?_ (by assumption) (by first | omega | (simp; done) | (simp; omega) | exact Below.size (by assumption) | exact Nat.le_trans (Below.size (by assumption)) (by simp)))))⟩
          rcases Nat.lt_or_ge j i with hj2 | hj2
          · exact hall.out j hj2
          · obtain rfl : j = i := by omega
            exact ⟨_, hqe.out, hhh.out⟩
        case measure => simp [intOf]; omega
      · have hv := Lib.hid (imV_bad (S := S) (E := E) hkmh.out (by rw [← hkLh.out]; exact hh))
        go_wp2_with fail
        refine (eFails_any _ _ _ _ E q.L _ hfi.out (hzh.out.below hBr) hqi.out).mono ?_
        rintro e w3 ⟨rfl, hb3⟩
        rw [hh]
        go_wp2
        go_ret
        exact ⟨ret_bool hv.out.symm, (by repeat (first | exact Below.refl _ _ | assumption | refine Below.drew ?_ | refine below_drewN ?_ _ | refine Below.alloc' ?_ _ | (refine Below.setCell ?_ (by first | omega | (simp; done) | (simp; omega) | exact Below.size (by assumption) | exact Nat.le_trans (Below.size (by assumption)) (by simp)) _) | (refine Below.via' ?_ (by assumption)) | (refine Below.alloc ?_ (by first | omega | (simp; done) | (simp; omega) | exact Below.size (by assumption) | exact Nat.le_trans (Below.size (by assumption)) (by simp)) _) | (refine Below.via ?_ (by assumption) (by first | omega | (simp; done) | (simp; omega) | exact Below.size (by assumption) | exact Nat.le_trans (Below.size (by assumption)) (by simp)))))⟩
    · have hij : i = T.length := by omega
      subst hij
      have hv : Hid (imV S (psN S M N) E = true) := by
        refine imV_all fun k hk => ?_
        have h1 : atL S (k : Int) ∈ psL S M N := List.mem_map.2 ⟨k, hk, rfl⟩
        rw [← hMh.out] at h1
        obtain ⟨j, hj, e⟩ := List.getElem_of_mem h1
        obtain ⟨V, h2, h3⟩ := hall.out j (by rw [eM_len] at hj; exact hj)
        rw [List.getElem?_eq_getElem hj, e] at h2
        cases h2
        exact h3
      clear hall
      go_wp2
      go_ret
      exact ⟨ret_bool hv.out.symm, (by repeat (first | exact Below.refl _ _ | assumption | refine Below.drew ?_ | refine below_drewN ?_ _ | refine Below.alloc' ?_ _ | (refine Below.setCell ?_ (by first | omega | (simp; done) | (simp; omega) | exact Below.size (by assumption) | exact Nat.le_trans (Below.size (by assumption)) (by simp)) _) | (refine Below.via' ?_ (by assumption)) | (refine Below.alloc ?_ (by first | omega | (simp; done) | (simp; omega) | exact Below.size (by assumption) | exact Nat.le_trans (Below.size (by assumption)) (by simp)) _) | (refine Below.via ?_ (by assumption) (by first | omega | (simp; done) | (simp; omega) | exact Below.size (by assumption) | exact Nat.le_trans (Below.size (by assumption)) (by simp)))))⟩
theorem lv_at {S : List (ByteArray × Int)} {i : Nat} {nm : ByteArray} {lv : Int} (h : S[i]? = some (nm, lv)) : lv = lvA S i := by
  have hi := (List.getElem?_eq_some_iff.1 h).1
  have h1 := at_nm hi
  rw [h] at h1
  injection h1 with h1
  exact (Prod.mk.inj h1).2
set_option maxHeartbeats 4000000 in
theorem grows_any (g : Nat) (x z : Option Addr) (c cz lo : Nat) (S : List (ByteArray × Int)) (M : List (List Int)) (N : Nat) (v : Int) (u : Value) (E : List Int) (W0 w : World) (hN2 : N ≤ 262144) (hs : schB S = true) (hE : edB S E = true) (hS : SIn W0 x c S) (hB : Below W0.heap.size W0 w) (hI : SrI S M N v x c lo w g u) (hz : Rd w z (iC E)) (hcz : E.length ≤ cz) (hnz : z = none → cz = 0) :
    Calls Try.prog 202 #[.pointer (some ⟨g, 0, none⟩), .slice z E.length cz] w fun e w' => e = .returned (.bool (grB S (psN S M N) E)) ∧ Below w.heap.size w w' := by
  obtain ⟨b0, off0, rfl, hb0, hcs⟩ := sin_box hS hs
  have hlE := Lib.hid (ed_len hE)
  have hl6 := (schB_len hs).2
  have hE6 : E.length ≤ 6 := by have := hlE.out; omega
  have hcsh := Lib.hid hcs
  have hIh := Lib.hid hI
  have hBh := Lib.hid hB
  have hsh := Lib.hid hs
  have hEh := Lib.hid hE
  have hzh := Lib.hid (ed_iin hs hE hz)
  have hnzh := Lib.hid hnz
  have hBs := hB.size
  clear hcs hI hB hs hE hz hS hnz
  go_enter Try.func202, Try.ntmps202
  go_wp2
  go_loopw [10] (fun c2 wr => ∃ i : Nat, i ≤ E.length ∧ c2 = .int .i64 i ∧ Hid (∀ j, j < i → grI S (psN S M N) E j = false) ∧ Below w.heap.size w wr) (fun c2 _ => E.length - (intOf c2).toNat)
  case atStart => exact ⟨0, by omega, rfl, (fun j hj => absurd hj (by omega)), Below.refl _ _⟩
  case round =>
    obtain ⟨i, hi, rfl, hall, hBr⟩ := hrel
    by_cases hlt : i < E.length
    · have hiS : i < S.length := by have := hlE.out; omega
      obtain ⟨l1, l2⟩ := lvA_bd hsh.out hiS
      have hlt' : (i : Int) < (E.length : Int) := by omega
      have hiS' : (i : Int) < (S.length : Int) := by omega
      have hi0 : (0 : Int) ≤ (i : Int) := by omega
      go_wp2
      go_loopw [6] (fun c2 wx => ∃ l : Nat, (l : Int) ≤ lvA S i ∧ c2 = .int .i64 l ∧ Hid (∀ m : Nat, m < l → grA S (psN S M N) E i m = false) ∧ Below w.heap.size w wx) (fun c2 _ => (lvA S i).toNat - (intOf c2).toNat)
      case atStart => exact ⟨0, by omega, rfl, (fun j hj => absurd hj (by omega)), hBr⟩
      case round =>
        clear hBr
        obtain ⟨l, hl, rfl, hin, hBx⟩ := hrel
        obtain ⟨wx, rfl⟩ : ∃ q : World, q = wr := ⟨_, rfl⟩
        have hIx := Lib.hid (hIh.out.below hBx)
        have hzx := Lib.hid (hzh.out.below hBx)
        obtain ⟨y, d, T, hW, -, -, -⟩ := hIx.out
        have ka := (hW.read 0).trans rfl
        have kb := hW.inside
        have hBW : Below W0.heap.size W0 wx := hBh.out.trans (hBx.mono hBs)
        obtain ⟨s0, s1⟩ := hcsh.out i hiS
        have hc0 := (hBW.cell (p := ⟨b0, off0 + i * 2, none⟩) hb0).trans s0
        have hc1 := (hBW.cell (p := ⟨b0, off0 + i * 2 + 1, none⟩) hb0).trans s1
        have hbx : b0 < wx.heap.size := by have := hBW.size; omega
        clear hW s0 s1
        by_cases hll : (l : Int) < lvA S i
        · obtain ⟨nm, lv, xv, hSi, hEi, x1, x2, y1, y2, x3⟩ := ed_at hsh.out hEh.out hiS
          obtain ⟨bl2, off2, xv', rfl, hbl2, hEi2, hc2⟩ := hzx.out.2.2.int (i := i) hlt
          obtain rfl := Option.some.inj (hEi2.symm.trans hEi)
          clear hEi2
          have hlv := lv_at hSi
          have hl7 : l ≤ 7 := by omega
          have hsv := shr_one (x := xv') (by omega) (by omega) l
          have hwu : IntKind.u64.wrap (l : Int) = l := by rw [show IntKind.u64.wrap (l : Int) = (l : Int) % 18446744073709551616 by simp [IntKind.wrap, IntKind.bits, IntKind.signed]]; omega
          have hst := Lib.hid (wl_at l hEi)
          have hge := Lib.hid (hEi)
          have hl0 : (0 : Int) ≤ (l : Int) := by omega
          clear hSi hlv
          cases hh : hsB xv' (l : Int)
          · rw [hh] at hsv
            have hq : (bits .and .i64 (xv' / 2 ^ l) 1 == 1) = false := by rw [hsv]; rfl
            have hgr := Lib.hid (grA_not (S := S) (P := psN S M N) hge.out hh)
            have hwe := Lib.hid (wl_ed hsh.out hEh.out hiS hll)
            obtain ⟨p1, p2⟩ := pw_bd hll
            have hp255 := flZ_bd (lvA_bd hsh.out hiS)
            have hor := or_jo (x := xv') (y := 2 ^ l) (by omega) (by omega) (by omega) (by omega)
            have hww : wrap64 (2 ^ l : Int) = 2 ^ l := IntWalk.wrap64_in _ (by omega)
            replace hsv := Lib.hid hsv
            replace hEi := Lib.hid hEi
            go_wp2_with fail
            refine (l1Own_any _ cz E _ (by omega) hcz (by intro h; cases h) hzx.out.2.2).mono ?_
            rintro e w3 ⟨u3, rfl, ho3, hb3⟩
            obtain ⟨g3, c3, rfl⟩ := own_some ho3 (by omega)
            have hlow3 := own_lt ho3
            obtain ⟨u0, hu0, f0⟩ := own_cell ho3 (j := i) (by omega)
            obtain rfl : u0 = .int .i64 xv' := Option.some.inj (hu0.symm.trans (iC_at hEi.out))
            have k2 := ho3.frozenAt i
            have hsto := Lib.hid (ho3.stored i (.int .i64 (joI xv' (2 ^ l)))).1
            have hb4 : Below wx.heap.size wx (w3.setCell ⟨g3, i, none⟩ (.int .i64 (joI xv' (2 ^ l)))) := hb3.setCell (p := ⟨g3, i, none⟩) hlow3.1 _
            have hI4 := Lib.hid (hIx.out.below hb4)
            have hB4 : Below w.heap.size w (w3.setCell ⟨g3, i, none⟩ (.int .i64 (joI xv' (2 ^ l)))) := hBx.trans (hb4.mono hBx.size)
            have hwl : Hid ((iC E).set i (.int .i64 (joI xv' (2 ^ l))) = iC (wlL E i l)) := by unfold Hid; rw [hst.out]; unfold iC; rw [List.map_set]
            have hR4 : Hid (Rd (w3.setCell ⟨g3, i, none⟩ (.int .i64 (joI xv' (2 ^ l)))) (some ⟨g3, 0, none⟩) (iC (wlL E i l))) := by have h0 := Rd.of_own hsto.out; rw [hwl.out] at h0; exact h0
            have hfr := free_any g (some ⟨b0, off0, none⟩) (some ⟨g3, 0, none⟩) c c3 lo S M N v u (wlL E i l) (w3.setCell ⟨g3, i, none⟩ (.int .i64 (joI xv' (2 ^ l)))) hN2 hsh.out hwe.out hI4.out hR4.out
            rw [wl_len] at hfr
            have hfrh := Lib.hid hfr
            have hbs := hBx.size
            clear hu0 ho3 hb3 hc0 hc1 ka hfr hsto
            go_wp2_with fail
            refine hfrh.out.mono ?_
            rintro e w5 ⟨rfl, hb5⟩
            have hB5 : Below w.heap.size w w5 := hB4.trans (hb5.mono hB4.size)
            clear hb5 hB4 hb4
            cases him : imV S (psN S M N) (wlL E i l)
            · have hgr2 : Hid (grA S (psN S M N) E i l = false) := hgr.out.trans him
              go_wp2
              go_roundw
              case rel =>
                refine ⟨l + 1, by omega, by go_num, fun m hm => ?_, (by repeat (first | exact Below.refl _ _ | assumption | refine Below.drew ?_ | refine below_drewN ?_ _ | refine Below.alloc' ?_ _ | (refine Below.setCell ?_ (by first | omega | (simp; done) | (simp; omega) | exact Below.size (by assumption) | exact Nat.le_trans (Below.size (by assumption)) (by simp)) _) | (refine Below.via' ?_ (by assumption)) | (refine Below.alloc ?_ (by first | omega | (simp; done) | (simp; omega) | exact Below.size (by assumption) | exact Nat.le_trans (Below.size (by assumption)) (by simp)) _) | (refine Below.via ?_ (by assumption) (by first | omega | (simp; done) | (simp; omega) | exact Below.size (by assumption) | exact Nat.le_trans (Below.size (by assumption)) (by simp)))))⟩
                rcases Nat.lt_or_ge m l with hj2 | hj2
                · exact hin.out m hj2
                · obtain rfl : m = l := by omega
                  exact hgr2.out
              case measure => simp [intOf]; omega
            · have hv := Lib.hid (gr_hit hlt hll (hgr.out.trans him))
              go_wp2
              go_ret
              exact ⟨ret_bool hv.out.symm, (by repeat (first | exact Below.refl _ _ | assumption | refine Below.drew ?_ | refine below_drewN ?_ _ | refine Below.alloc' ?_ _ | (refine Below.setCell ?_ (by first | omega | (simp; done) | (simp; omega) | exact Below.size (by assumption) | exact Nat.le_trans (Below.size (by assumption)) (by simp)) _) | (refine Below.via' ?_ (by assumption)) | (refine Below.alloc ?_ (by first | omega | (simp; done) | (simp; omega) | exact Below.size (by assumption) | exact Nat.le_trans (Below.size (by assumption)) (by simp)) _) | (refine Below.via ?_ (by assumption) (by first | omega | (simp; done) | (simp; omega) | exact Below.size (by assumption) | exact Nat.le_trans (Below.size (by assumption)) (by simp)))))⟩
          · rw [hh] at hsv
            have hq : (bits .and .i64 (xv' / 2 ^ l) 1 == 1) = true := by rw [hsv]; rfl
            have hgr := Lib.hid (grA_has (S := S) (P := psN S M N) hge.out hh)
            replace hsv := Lib.hid hsv
            replace hEi := Lib.hid hEi
            go_wp2
            go_roundw
            case rel =>
              refine ⟨l + 1, by omega, by go_num, fun m hm => ?_, (by repeat (first | exact Below.refl _ _ | assumption | refine Below.drew ?_ | refine below_drewN ?_ _ | refine Below.alloc' ?_ _ | (refine Below.setCell ?_ (by first | omega | (simp; done) | (simp; omega) | exact Below.size (by assumption) | exact Nat.le_trans (Below.size (by assumption)) (by simp)) _) | (refine Below.via' ?_ (by assumption)) | (refine Below.alloc ?_ (by first | omega | (simp; done) | (simp; omega) | exact Below.size (by assumption) | exact Nat.le_trans (Below.size (by assumption)) (by simp)) _) | (refine Below.via ?_ (by assumption) (by first | omega | (simp; done) | (simp; omega) | exact Below.size (by assumption) | exact Nat.le_trans (Below.size (by assumption)) (by simp)))))⟩
              rcases Nat.lt_or_ge m l with hj2 | hj2
              · exact hin.out m hj2
              · obtain rfl : m = l := by omega
                exact hgr.out
            case measure => simp [intOf]; omega
        · have hlq : (l : Int) = lvA S i := by omega
          have hgi := Lib.hid (grI_no (S := S) (P := psN S M N) (E := E) (i := i) (fun m hm => hin.out m (by omega)))
          clear hin
          go_wp2
          go_roundw
          case rel =>
            refine ⟨i + 1, by omega, by go_num, fun j hj => ?_, hBx⟩
            rcases Nat.lt_or_ge j i with hj2 | hj2
            · exact hall.out j hj2
            · obtain rfl : j = i := by omega
              exact hgi.out
          case measure => simp [intOf]; omega
    · have hij : i = E.length := by omega
      subst hij
      have hv := Lib.hid (gr_no hall.out)
      clear hall
      go_wp2
      go_ret
      exact ⟨ret_bool hv.out.symm, hBr⟩
end Go.Proofs.Ytnmpigedhpdenab

namespace Go.Proofs.Ytnmpigedhpdenab
open Go.RowKit
set_option maxRecDepth 100000

theorem vC_two (a : ByteArray) (n : Int) : vC [(a, n)] = [.string a, .int .i64 n] := rfl

theorem step_append_rd {P : Program} (w : World) {ops : Array Oper} {o : Oper} {a : Act} {K : Act → World → Prop} {Q : Exit → Act → World → Prop} {E : Prop} (hgd : o.guard = none) (s x : Operand) (t : TypeId)
    (ho : o.op = .call { callee := .builtin .append, args := #[s, x], argTypes := #[t, t] })
    (base : Nat) (e : TypeId) (i : TypeInfo) (z : Value) (size bytes : Nat) (ht : P.underlying t = some (.slice e)) (hi : P.info? e = some i) (hz : i.zero = some z)
    (hsize : i.size = size) (hby : i.bytes = bytes) (hzs : z.cells.size = size) (hsz : 0 < size)
    (v : Value) (n : Nat) (xs : List Value) (hs : a.eval s = v) (hown : w.ownsRow base e size v n xs)
    (A : Option Addr) (m c : Nat) (hx : a.eval x = .slice A m c) (hc : m ≤ c) (hnil : A = none → c = 0) (news : List Value) (hl : news.length = m * size) (hr : Rd w A news) (h1 : ∀ u ∈ news, u.oneCell' = true)
    (h63 : n + m ≤ maxLen) (hbytes : (n + m) * bytes ≤ 140737488355328) (hbase : base ≤ w.heap.size)
    (h : ∀ v' w', w'.ownsRow base e size v' (n + m) (xs ++ news) → w.grownBy w' v.ownBlock → (v'.ownBlock = v.ownBlock ∨ v'.ownBlock = some w.heap.size) → K (a.put o.dst v') w') :
    if Region.wanted o (yielded ops a.tmps) = true then Oper.wp P o a w K Q else E := by
  have hw : Region.wanted o (yielded ops a.tmps) = true := by simp [Region.wanted, hgd]
  rw [if_pos hw]
  obtain ⟨v', w', hrun, h2, h3, h4⟩ := run_append_rd (P := P) w base t o.type e i z size bytes ht hi hz hsize hby hzs hsz v n xs hown A m c hc hnil news hl hr h1 h63 hbytes hbase
  unfold Oper.wp execOp
  simp only [ho, resolve, invoke, builtin, Sem.run_bind, Sem.run_pure, Result.andThen_ok, List.map_toArray, List.map_cons, List.map_nil, hs, hx, hrun]
  exact h v' w' h2 h3 h4
theorem Rd.oneV (w : World) (t : TypeId) (s : ByteArray) (n : Int) : Rd (w.alloc (.cells #[.string s, .int .i64 n] t)) (some ⟨w.heap.size, 0, none⟩) (vC [(s, n)]) := by
  refine Or.inr ⟨w.heap.size, 0, rfl, by simp, fun j u hj => ?_⟩
  rw [vC_two] at hj
  rw [Nat.zero_add, World.cell?_alloc_at _ _ _ _ rfl, ← hj, ← Array.getElem?_toList]
theorem Rd.drewW {w : World} {x : Option Addr} {xs : List Value} (h : Rd w x xs) : Rd w.drew x xs := h

end Go.Proofs.Ytnmpigedhpdenab

namespace Go.Proofs.Ytnmpigedhpdenab
open Go.RowKit Go.Shelf
set_option maxRecDepth 100000

theorem Rd.oneEdM (w : World) (t : TypeId) (u : Option Addr) (n c g : Nat) (hg : w.heap.size = g) : Rd (w.alloc (.cells #[.slice u n c] t)) (some ⟨g, 0, none⟩) [.slice u n c] := by
  subst hg
  refine Or.inr ⟨w.heap.size, 0, rfl, by simp, fun j v hj => ?_⟩
  rw [Nat.zero_add, World.cell?_alloc_at _ _ _ _ rfl, ← hj, ← Array.getElem?_toList]
/-- What a search hands back: nothing; what it found stands in its memory. -/
def RunPost (S : List (ByteArray × Int)) (M : List (List Int)) (N : Nat) (v : Int) (x : Option Addr) (c lo : Nat) (W0 : World) (g : Nat) (L : List (List Int)) (w : World) (e : Ending) (w' : World) : Prop :=
  (∃ r, e = .returned r) ∧ ∃ (u' : Value) (T' : List PR), SrI S M N v x c lo w' g u' ∧ OwL w' lo u' T' ∧ eM T' = L ∧ KxT 187 153 w w' ∧ Below W0.heap.size W0 w'
theorem rnU_mono (S : List (ByteArray × Int)) (P : List Nat) (v : Int) (k : Nat) (D : List Int) (a : Int) {j n : Nat} (h : j ≤ n) : (rnU S P v k D a j).length ≤ (rnU S P v k D a n).length := by
  obtain ⟨d, rfl⟩ : ∃ d, n = j + d := ⟨n - j, by omega⟩
  clear h
  induction d with
  | zero => exact Nat.le_refl _
  | succ d ih =>
    rw [← Nat.add_assoc, rnU_step, List.length_append]
    omega
/-- A world in which the search's own block is written, and a row of edits grows. -/
theorem run_grow {S : List (ByteArray × Int)} {M : List (List Int)} {N : Nat} {v : Int} {x : Option Addr} {c lo g : Nat} {w w1 w2 : World} {u u' : Value} {T : List PR} {q : PR} {o : Obj} {nq : Nat} {W0 : World}
    (hI : SrI S M N v x c lo w1 g u) (hO : OwL w1 lo u T) (hk : KxT 187 153 w w1) (hB : Below W0.heap.size W0 w1) (hg : (w1.alloc o).grownBy w2 u.ownBlock) (hrow : w2.ownsRow lo 153 1 u' (T.length + 1) (eC T ++ eC [q])) (hq : w1.ownsRow nq 3 1 q.v q.L.length (iC q.L)) (hlo : lo ≤ nq) (hfr : ∀ p ∈ T, ∀ k, p.v.ownBlock = some k → k < nq)
    (hg0 : W0.heap.size ≤ g) (hl0 : W0.heap.size ≤ lo) :
    SrI S M N v x c lo (w2.setCell ⟨g, 3, none⟩ u') g u' ∧ OwL (w2.setCell ⟨g, 3, none⟩ u') lo u' (T ++ [q]) ∧ KxT 187 153 w (w2.setCell ⟨g, 3, none⟩ u') ∧ Below W0.heap.size W0 (w2.setCell ⟨g, 3, none⟩ u') := by
  have ho : ∀ k, u.ownBlock = some k → ∃ (cs : Array Value) (fz : Nat × Nat), (w1.alloc o).heap[k]? = some (Obj.cells cs 153 fz) := own_typ (hO.1.alloc o)
  have hb1 : Below w1.heap.size w1 (w1.alloc o) := (Below.refl _ _).alloc (Nat.le_refl _) _
  have I2 := (hI.below hb1).k1 (KxT.of_grown hg ho)
  have O2 := hO.snoc hg hrow hq hlo hfr
  obtain ⟨cs, fz, hblk⟩ := I2.blk
  refine ⟨I2.put u', O2.set (p := ⟨g, 3, none⟩) hblk (by decide) (by decide) u', (hk.trans (KxT.of_below hb1)).trans ((KxT.of_grown hg ho).trans (KxT.of_set (p := ⟨g, 3, none⟩) hblk u')), ?_⟩
  have hb2 : Below W0.heap.size W0 w2 := ((hB.alloc hB.size o).grown hg (by have := hB.size; simp; omega) (fun k hk => by have := (hO.1.lt k hk).1; omega))
  exact hb2.setCell (p := ⟨g, 3, none⟩) hg0 _
theorem en_cons {S : List (ByteArray × Int)} {v : Int} {k j : Nat} {r : List Int} (h : k < S.length) (hj : j < (flZ (lvA S k) + 1 - bnA S v k).toNat) (hr : r ∈ enL ((bnS S v).drop (k + 1))) : (bnA S v k + (j : Int)) :: r ∈ enL ((bnS S v).drop k) := by
  have e : (bnS S v).drop k = (bnA S v k, flZ (lvA S k)) :: (bnS S v).drop (k + 1) := by
    have h1 := bn_at (v := v) h
    have h2 := (List.getElem?_eq_some_iff.1 h1).1
    rw [List.drop_eq_getElem_cons h2]
    rw [List.getElem?_eq_getElem h2] at h1
    rw [Option.some.inj h1]
  rw [e]
  exact List.mem_flatMap.2 ⟨_, List.mem_map.2 ⟨j, List.mem_range.2 hj, rfl⟩, List.mem_map.2 ⟨r, hr, rfl⟩⟩
theorem run_same {S : List (ByteArray × Int)} {M : List (List Int)} {N : Nat} {v : Int} {x : Option Addr} {c lo g : Nat} {W0 w w' : World} {u : Value} {T : List PR} {r : Value} {L : List (List Int)} (hI : SrI S M N v x c lo w g u) (hO : OwL w lo u T) (hB : Below W0.heap.size W0 w) (hb : Below w.heap.size w w') (hL : eM T = L) : RunPost S M N v x c lo W0 g L w (.returned r) w' :=
  ⟨⟨r, rfl⟩, u, T, hI.below hb, hO.below hb, hL, KxT.of_below hb, hB.trans (hb.mono hB.size)⟩
/-- The contract of the search from a variable on. -/
def RunC (g : Nat) (x : Option Addr) (c lo : Nat) (S : List (ByteArray × Int)) (M : List (List Int)) (N : Nat) (v : Int) (W0 : World) (k : Nat) : Prop := ∀ (z : Option Addr) (cz : Nat) (D : List Int) (u : Value) (T : List PR) (w : World), D.length = k → (∀ r ∈ enL ((bnS S v).drop k), edB S (D ++ r) = true) → T.length + (rnL S (psN S M N) v k D).length ≤ 1000000 → SrI S M N v x c lo w g u → OwL w lo u T → lo ≤ w.heap.size → w.ownsRow lo 3 1 (.slice z D.length cz) D.length (iC D) → Below W0.heap.size W0 w → Calls Try.prog 184 #[.pointer (some ⟨g, 0, none⟩), .int .i64 k, .slice z D.length cz] w (RunPost S M N v x c lo W0 g (eM T ++ rnL S (psN S M N) v k D) w)
set_option maxHeartbeats 4000000 in
theorem run_zero (g : Nat) (x : Option Addr) (c lo : Nat) (S : List (ByteArray × Int)) (M : List (List Int)) (N : Nat) (v : Int) (W0 : World) (hN2 : N ≤ 262144) (hs : schB S = true) (hS : SIn W0 x c S) (hg0 : W0.heap.size ≤ g) (hl0 : W0.heap.size ≤ lo) (k : Nat) (hk : k + 0 = S.length) : RunC g x c lo S M N v W0 k := by
  obtain ⟨i0, hii, hz0, hz1, hz2⟩ := info_parts Try.infoInt
  obtain ⟨j0, hi, hy0, hy1, hy2⟩ := info_parts Try.infoEd
  obtain ⟨b0, off0, rfl, hb0, hcs⟩ := sin_box hS hs
  have hl6 := (schB_len hs).2
  have hSh := Lib.hid hS
  have hsh := Lib.hid hs
  clear hs hS hcs
  intro z cz D u T w hD hE hlen hI hO hlo hR hB
  obtain rfl : k = S.length := by omega
  have hD6 : D.length ≤ 6 := by omega
  have hED : Hid (edB S D = true) := by have h0 := hE [] (by rw [List.drop_eq_nil_of_le (by rw [bn_len]; omega)]; exact List.mem_singleton.2 rfl); rwa [List.append_nil] at h0
  obtain ⟨zz, cc, hform, hcz, hnz⟩ := (OwR.of hR).form
  injection hform with e1 _ e2
  subst e1 e2
  obtain ⟨vx, vc, rfl, -, -⟩ := (OwR.of hO.1).form
  have hIh := Lib.hid hI
  have hOh := Lib.hid hO
  have hRh := Lib.hid hR
  have hBh := Lib.hid hB
  have hnzh := Lib.hid hnz
  have hrn := Lib.hid (rn_end (S := S) (P := psN S M N) (v := v) (D := D))
  have hlenh := Lib.hid hlen
  obtain ⟨y, dd, TT, hW, -, -, -⟩ := hI
  have ka := (hW.read 0).trans rfl
  have kb := hW.inside
  clear hW hO hR hB hE hnz hlen hk
  replace hD := Lib.hid hD
  go_enter Try.func184, Try.ntmps184
  go_wp2_with fail
  refine (free_any g _ z c cz lo S M N v _ D _ hN2 hsh.out hED.out hIh.out (Rd.of_own hRh.out)).mono ?_
  rintro e w1 ⟨rfl, hb1⟩
  cases him : imV S (psN S M N) D
  · have hL : Hid (eM T = eM T ++ rnL S (psN S M N) v S.length D) := by unfold Hid; rw [hrn.out, if_neg (by rw [mx_no1 him]; exact Bool.false_ne_true), List.append_nil]
    go_wp2
    go_end0
    exact run_same hIh.out hOh.out hBh.out (by exact (by repeat (first | exact Below.refl _ _ | assumption | refine Below.drew ?_ | refine below_drewN ?_ _ | refine Below.alloc' ?_ _ | (refine Below.setCell ?_ (by first | omega | (simp; done) | (simp; omega) | exact Below.size (by assumption) | exact Nat.le_trans (Below.size (by assumption)) (by simp)) _) | (refine Below.via' ?_ (by assumption)) | (refine Below.alloc ?_ (by first | omega | (simp; done) | (simp; omega) | exact Below.size (by assumption) | exact Nat.le_trans (Below.size (by assumption)) (by simp)) _) | (refine Below.via ?_ (by assumption) (by first | omega | (simp; done) | (simp; omega) | exact Below.size (by assumption) | exact Nat.le_trans (Below.size (by assumption)) (by simp)))))) hL.out
  have himh := Lib.hid him
  clear him
  have hI1 := Lib.hid (hIh.out.below hb1)
  have hR1 := Lib.hid (own_below hRh.out hb1)
  go_wp2_with fail
  refine (grows_any g _ z c cz lo S M N v _ D W0 _ hN2 hsh.out hED.out hSh.out (hBh.out.trans (hb1.mono hBh.out.size)) hI1.out (Rd.of_own hR1.out) hcz hnzh.out).mono ?_
  rintro e w2 ⟨rfl, hb2⟩
  have hb02 : Below w.heap.size w w2 := hb1.trans (hb2.mono hb1.size)
  clear hI1 hR1 hb1 hb2
  cases hgr : grB S (psN S M N) D
  · have hL : Hid (∀ q : PR, q.L = D → eM (T ++ [q]) = eM T ++ rnL S (psN S M N) v S.length D) := fun q hq => by rw [hrn.out, if_pos (mx_yes himh.out hgr), eM_app]; unfold eM; rw [List.map_singleton, hq]
    have hTl : T.length + 1 ≤ 1000000 := by have h0 := hlenh.out; rw [hrn.out, if_pos (mx_yes himh.out hgr)] at h0; exact h0
    have hI2 := Lib.hid (hIh.out.below hb02)
    have hO2 := Lib.hid (hOh.out.below hb02)
    have hR2 := Lib.hid (own_below hRh.out hb02)
    have hB2 := Lib.hid (hBh.out.trans (hb02.mono hBh.out.size))
    obtain ⟨y, dd, TT, hW, -, -, -⟩ := hI2.out
    have ka2 := (hW.read 3).trans rfl
    have kb2 := hW.inside
    have hs02 := hb02.size
    have hRd : Hid (Rd w2.drew z (iC D)) := Rd.of_own hR2.out
    clear hW ka kb
    go_wp2_with fail
    go_region_law (first
      | (go_simp; go_at_call 102; refine (l1Own_any z cz D w2.drew (by omega) hcz hnzh.out hRd.out).mono ?_; rintro e w4 ⟨u4, rfl, ho4, hb4⟩; (obtain ⟨x4, c4, rfl, -, -⟩ := (OwR.of ho4).form); (have hb24 : Below w2.heap.size w2 w4 := ((Below.refl _ w2).drew).trans hb4); (have hI4 := Lib.hid (hI2.out.below hb24)); (have hO4 := Lib.hid (hO2.out.below hb24)); (obtain ⟨y4, d4, T4, hW4, -, -, -⟩ := hI4.out); (have kd := (hW4.read 3).trans rfl); (have ke := hW4.inside); (have hs4 := hb24.size); (have ho4 := Lib.hid ho4); clear hW4 hb4)
      | (go_loud (refine step_append_rd _ rfl (.tmp 28) (.tmp 32) 83 rfl lo 153 j0 (.agg #[.slice none 0 0]) 1 24 Try.underlying83 hi hy0 hy1 hy2 rfl (by decide) _ T.length (eC T) rfl (hO4.out.1.alloc _) _ 1 1 rfl (Nat.le_refl _) (by intro h; cases h) (eC [(⟨0, 0, x4, c4, D⟩ : PR)]) rfl (Rd.oneEdM _ _ _ _ _ _ (by simp)) (eC_one _) (by unfold maxLen; omega) (by omega) (by simp; omega) ?_); intro v5 w5 hown5 hgrow5 hwhere5; (obtain ⟨z5, c5, rfl, -, -⟩ := (OwR.of hown5).form); (have hI5 := Lib.hid ((hI4.out.below ((Below.refl _ w4).alloc (Nat.le_refl _) _)).k1 (KxT.of_grown hgrow5 (own_typ (hO4.out.1.alloc _))))); (obtain ⟨y5, d5, T5, hW5, -, -, -⟩ := hI5.out); (have kf := (hW5.read 3).trans rfl); (have kg := hW5.free 3); (have kh := hW5.inside); clear hW5)
      )
    all_goals
      have H := Lib.hid (run_grow (q := ⟨0, 0, x4, c4, D⟩) hI4.out hO4.out (KxT.of_below (hb02.trans (hb24.mono hs02))) (hB2.out.trans (hb24.mono hB2.out.size)) hgrow5 hown5 ho4.out (Nat.le_trans hlo hs02) (fun p hp k hk => by have := hO2.out.lt p hp k hk; exact this) hg0 hl0)
      clear hgrow5 hwhere5 hown5
      go_wp2
      go_end0
      exact ⟨⟨_, rfl⟩, _, _, H.out.1, H.out.2.1, hL.out _ rfl, H.out.2.2.1, H.out.2.2.2⟩
  · have hL : Hid (eM T = eM T ++ rnL S (psN S M N) v S.length D) := by unfold Hid; rw [hrn.out, if_neg (by rw [mx_no2 hgr]; exact Bool.false_ne_true), List.append_nil]
    go_wp2
    go_end0
    exact run_same hIh.out hOh.out hBh.out (by exact (by repeat (first | exact Below.refl _ _ | assumption | refine Below.drew ?_ | refine below_drewN ?_ _ | refine Below.alloc' ?_ _ | (refine Below.setCell ?_ (by first | omega | (simp; done) | (simp; omega) | exact Below.size (by assumption) | exact Nat.le_trans (Below.size (by assumption)) (by simp)) _) | (refine Below.via' ?_ (by assumption)) | (refine Below.alloc ?_ (by first | omega | (simp; done) | (simp; omega) | exact Below.size (by assumption) | exact Nat.le_trans (Below.size (by assumption)) (by simp)) _) | (refine Below.via ?_ (by assumption) (by first | omega | (simp; done) | (simp; omega) | exact Below.size (by assumption) | exact Nat.le_trans (Below.size (by assumption)) (by simp)))))) hL.out
set_option maxHeartbeats 4000000 in
theorem run_succ (g : Nat) (x : Option Addr) (c lo : Nat) (S : List (ByteArray × Int)) (M : List (List Int)) (N : Nat) (v : Int) (W0 : World) (hs : schB S = true) (hS : SIn W0 x c S) (d k : Nat) (hk : k + (d + 1) = S.length) (ih : RunC g x c lo S M N v W0 (k + 1)) : RunC g x c lo S M N v W0 k := by
  obtain ⟨i0, hii, hz0, hz1, hz2⟩ := info_parts Try.infoInt
  obtain ⟨j0, hi, hy0, hy1, hy2⟩ := info_parts Try.infoEd
  obtain ⟨b0, off0, rfl, hb0, hcs⟩ := sin_box hS hs
  have hl6 := (schB_len hs).2
  have hSh := Lib.hid hS
  have hsh := Lib.hid hs
  clear hs hS hcs
  intro z cz D u T w hD hE hlen hI hO hlo hR hB
  have hkl : k < S.length := by omega
  have hD6 : D.length ≤ 6 := by omega
  obtain ⟨zz, cc, hform, hcz, hnz⟩ := (OwR.of hR).form
  injection hform with e1 _ e2
  subst e1 e2
  have hIh := Lib.hid hI
  have hOh := Lib.hid hO
  have hRh := Lib.hid hR
  have hBh := Lib.hid hB
  have hnzh := Lib.hid hnz
  have hEh := Lib.hid hE
  have hlenh := Lib.hid hlen
  have hloh := hlo
  have hall := Lib.hid (rn_all (S := S) (P := psN S M N) (v := v) (D := D) hkl)
  have ihh := Lib.hid ih
  have hkne : ((k : Int) == (S.length : Int)) = false := by rw [beq_eq_false_iff_ne]; omega
  obtain ⟨y, dd, TT, hW, -, -, -⟩ := hI
  have ka := (hW.read 0).trans rfl
  have ka2 := (hW.read 2).trans rfl
  have kb := hW.inside
  clear hW hO hR hB hE hnz hlen ih
  replace hD := Lib.hid hD
  by_cases hkv : (k : Int) = v
  · have hbn := Lib.hid (bn_full (S := S) hkv)
    have hkq : ((k : Int) == v) = true := by rw [beq_iff_eq]; exact hkv
    replace hkv := Lib.hid hkv
    go_enter Try.func184, Try.ntmps184
    go_wp2_with fail
    refine (eFull_any _ _ S k (nmA S k) (lvA S k) _ (lvA_bd hsh.out hkl) (at_nm hkl) (hSh.out.rd.below hBh.out)).mono ?_
    rintro e wq ⟨rfl, rfl⟩
    go_wp2
    go_loopw [7] (fun c2 wr => ∃ (j : Nat) (u' : Value) (T' : List PR), j ≤ (flZ (lvA S k) + 1 - bnA S v k).toNat ∧ c2 = .int .i64 (bnA S v k + (j : Int)) ∧ Hid (SrI S M N v (some ⟨b0, off0, none⟩) c lo wr g u') ∧ Hid (OwL wr lo u' T') ∧ Hid (eM T' = eM T ++ rnU S (psN S M N) v k D (bnA S v k) j) ∧ Hid (KxT 187 153 w wr) ∧ Below W0.heap.size W0 wr ∧ lo ≤ wr.heap.size) (fun c2 _ => (flZ (lvA S k) + 1 - intOf c2).toNat)
    case atStart => exact ⟨0, _, T, by omega, (by first | rfl | (rw [hbn.out]; rfl) | (rw [hbn.out]; simp)), hIh.out.below (Below.refl w.heap.size w), hOh.out.below (Below.refl w.heap.size w), (by unfold Hid rnU; simp), KxT.of_below (Below.refl w.heap.size w), hBh.out.trans ((Below.refl w.heap.size w).mono hBh.out.size), Nat.le_trans hloh (Below.refl w.heap.size w).size⟩
    case round =>
      obtain ⟨j, u', T', hj, rfl, hI', hO', hM', hk', hBr, hlr⟩ := hrel
      have hBs := hBr.size
      obtain ⟨y, dd, TT, hW, -, -, -⟩ := hI'.out
      have ka := (hW.read 0).trans rfl
      have kb := hW.inside
      have hcap := flZ_bd (lvA_bd hsh.out hkl)
      have hb1 := bn_bd v hsh.out hkl
      clear hW
      by_cases hlt : j < (flZ (lvA S k) + 1 - bnA S v k).toNat
      · have hle : bnA S v k + (j : Int) ≤ flZ (lvA S k) := by omega
        have hD' := Lib.hid (hk'.out.own hRh.out (by decide) (by decide))
        have hst := Lib.hid (rnU_step S (psN S M N) v k D (bnA S v k) j)
        have hmo := Lib.hid (rnU_mono S (psN S M N) v k D (bnA S v k) (show j + 1 ≤ (flZ (lvA S k) + 1 - bnA S v k).toNat by omega))
        have hlT : Hid (T'.length + (rnL S (psN S M N) v (k + 1) (D ++ [bnA S v k + (j : Int)])).length ≤ 1000000) := by
          have h1 := congrArg List.length hM'.out
          rw [List.length_append, eM_len, eM_len] at h1
          have h2 := hmo.out
          rw [hst.out, List.length_append] at h2
          have h3 := hlenh.out
          rw [hall.out] at h3
          unfold Hid
          omega
        have hE' : Hid (∀ r ∈ enL ((bnS S v).drop (k + 1)), edB S ((D ++ [bnA S v k + (j : Int)]) ++ r) = true) := fun r hr => by
          rw [List.append_assoc]
          exact hEh.out _ (en_cons hkl hlt hr)
        have hw1 : IntKind.i64.wrap ((k : Int) + 1) = ((k + 1 : Nat) : Int) := by rw [IntWalk.i64_in _ (by omega)]; rfl
        have hw2 : IntKind.i64.wrap (bnA S v k + (j : Int) + 1) = bnA S v k + ((j + 1 : Nat) : Int) := by rw [IntWalk.i64_in _ (by omega)]; push_cast; omega
        clear hmo
        go_wp2_with fail
        refine (eFull_any _ _ S k (nmA S k) (lvA S k) _ (lvA_bd hsh.out hkl) (at_nm hkl) (hSh.out.rd.below hBr)).mono ?_
        rintro e wq ⟨rfl, rfl⟩
        go_wp2_with fail
        refine (l1Own_any z cz D _ (by omega) hcz hnzh.out (Rd.of_own hD'.out)).mono ?_
        rintro e wa ⟨u3, rfl, ho3, hb3⟩
        obtain ⟨x3, c3, rfl, -, -⟩ := (OwR.of ho3).form
        have ho3 := Lib.hid ho3
        have hs3a := hb3.size
        go_wp2_with (at_builtin; go_loud (refine wpList_append_rd _ rfl (.tmp 63) (.tmp 65) 23 rfl (wr.heap.size) 3 i0 (.int .i64 0) 1 8 Try.underlying23 hii hz0 hz1 hz2 rfl (by decide) _ (D).length (iC (D)) rfl ((ho3.out.alloc _)) _ 1 1 rfl (Nat.le_refl _) (by intro h; cases h) (iC [((bnA S v k + (j : Int)) : Int)]) rfl (rd_oneE _ _ _ _ (by simp)) (iC_one _) (by unfold maxLen; omega) (by omega) (by simp; omega) ?_); intro v3 w3 hown3 hgrow3 hwhere3)
        obtain ⟨hb4, -⟩ := append_below (w := wr) hb3 (fun k hk => (ho3.out.lt k hk).1) hgrow3 hwhere3
        have hown4 := own_snocE (M := D ++ [bnA S v k + (j : Int)]) hown3 rfl rfl
        obtain ⟨x4, c4, rfl, -, -⟩ := (OwR.of hown4).form
        have hih := Lib.hid (ihh.out x4 c4 (D ++ [bnA S v k + (j : Int)]) u' T' w3 (by rw [List.length_append, hD.out]; rfl) hE'.out hlT.out (hI'.out.below hb4) (hO'.out.below hb4) (Nat.le_trans hlr hb4.size) (own_more hown4 hlr) (hBr.trans (hb4.mono hBs)))
        have hk4 := Lib.hid (hk'.out.trans (KxT.of_below hb4))
        have hs4 := hb4.size
        clear hown3 hown4 hgrow3 hwhere3 hb4 hb3 ho3
        go_wp2_with fail
        refine hih.out.mono ?_
        rintro e w5 ⟨⟨r, rfl⟩, u5, T5, hI5, hO5, hM5, hk5, hB5⟩
        have hI5 := Lib.hid hI5
        have hO5 := Lib.hid hO5
        have hM5 := Lib.hid hM5
        have hk5 := Lib.hid hk5
        go_wp2
        go_roundw
        case rel => exact ⟨j + 1, u5, T5, by omega, (by first | rfl | rw [hw2] | go_num), hI5.out, hO5.out, (by unfold Hid; rw [hM5.out, hM'.out, hst.out, List.append_assoc]), hk4.out.trans hk5.out, hB5, Nat.le_trans hlr (Nat.le_trans hs4 hk5.out.1)⟩
        case measure => simp [intOf]; omega
      · have hjn : j = (flZ (lvA S k) + 1 - bnA S v k).toNat := by omega
        have hgt : ¬ bnA S v k + (j : Int) ≤ flZ (lvA S k) := by omega
        go_wp2_with fail
        refine (eFull_any _ _ S k (nmA S k) (lvA S k) _ (lvA_bd hsh.out hkl) (at_nm hkl) (hSh.out.rd.below hBr)).mono ?_
        rintro e wq ⟨rfl, rfl⟩
        go_wp2
        go_end0
        exact ⟨⟨_, rfl⟩, u', T', hI'.out, hO'.out, (by rw [hM'.out, hall.out, hjn]), hk'.out, hBr⟩
  · have hbn := Lib.hid (bn_one (S := S) hkv)
    have hkq : ((k : Int) == v) = false := by rw [beq_eq_false_iff_ne]; exact hkv
    replace hkv := Lib.hid hkv
    go_enter Try.func184, Try.ntmps184
    go_wp2
    go_loopw [7] (fun c2 wr => ∃ (j : Nat) (u' : Value) (T' : List PR), j ≤ (flZ (lvA S k) + 1 - bnA S v k).toNat ∧ c2 = .int .i64 (bnA S v k + (j : Int)) ∧ Hid (SrI S M N v (some ⟨b0, off0, none⟩) c lo wr g u') ∧ Hid (OwL wr lo u' T') ∧ Hid (eM T' = eM T ++ rnU S (psN S M N) v k D (bnA S v k) j) ∧ Hid (KxT 187 153 w wr) ∧ Below W0.heap.size W0 wr ∧ lo ≤ wr.heap.size) (fun c2 _ => (flZ (lvA S k) + 1 - intOf c2).toNat)
    case atStart => exact ⟨0, _, T, by omega, (by first | rfl | (rw [hbn.out]; rfl) | (rw [hbn.out]; simp)), hIh.out.below (Below.refl w.heap.size w), hOh.out.below (Below.refl w.heap.size w), (by unfold Hid rnU; simp), KxT.of_below (Below.refl w.heap.size w), hBh.out.trans ((Below.refl w.heap.size w).mono hBh.out.size), Nat.le_trans hloh (Below.refl w.heap.size w).size⟩
    case round =>
      obtain ⟨j, u', T', hj, rfl, hI', hO', hM', hk', hBr, hlr⟩ := hrel
      have hBs := hBr.size
      obtain ⟨y, dd, TT, hW, -, -, -⟩ := hI'.out
      have ka := (hW.read 0).trans rfl
      have kb := hW.inside
      have hcap := flZ_bd (lvA_bd hsh.out hkl)
      have hb1 := bn_bd v hsh.out hkl
      clear hW
      by_cases hlt : j < (flZ (lvA S k) + 1 - bnA S v k).toNat
      · have hle : bnA S v k + (j : Int) ≤ flZ (lvA S k) := by omega
        have hD' := Lib.hid (hk'.out.own hRh.out (by decide) (by decide))
        have hst := Lib.hid (rnU_step S (psN S M N) v k D (bnA S v k) j)
        have hmo := Lib.hid (rnU_mono S (psN S M N) v k D (bnA S v k) (show j + 1 ≤ (flZ (lvA S k) + 1 - bnA S v k).toNat by omega))
        have hlT : Hid (T'.length + (rnL S (psN S M N) v (k + 1) (D ++ [bnA S v k + (j : Int)])).length ≤ 1000000) := by
          have h1 := congrArg List.length hM'.out
          rw [List.length_append, eM_len, eM_len] at h1
          have h2 := hmo.out
          rw [hst.out, List.length_append] at h2
          have h3 := hlenh.out
          rw [hall.out] at h3
          unfold Hid
          omega
        have hE' : Hid (∀ r ∈ enL ((bnS S v).drop (k + 1)), edB S ((D ++ [bnA S v k + (j : Int)]) ++ r) = true) := fun r hr => by
          rw [List.append_assoc]
          exact hEh.out _ (en_cons hkl hlt hr)
        have hw1 : IntKind.i64.wrap ((k : Int) + 1) = ((k + 1 : Nat) : Int) := by rw [IntWalk.i64_in _ (by omega)]; rfl
        have hw2 : IntKind.i64.wrap (bnA S v k + (j : Int) + 1) = bnA S v k + ((j + 1 : Nat) : Int) := by rw [IntWalk.i64_in _ (by omega)]; push_cast; omega
        clear hmo
        go_wp2_with fail
        refine (eFull_any _ _ S k (nmA S k) (lvA S k) _ (lvA_bd hsh.out hkl) (at_nm hkl) (hSh.out.rd.below hBr)).mono ?_
        rintro e wq ⟨rfl, rfl⟩
        go_wp2_with fail
        refine (l1Own_any z cz D _ (by omega) hcz hnzh.out (Rd.of_own hD'.out)).mono ?_
        rintro e wa ⟨u3, rfl, ho3, hb3⟩
        obtain ⟨x3, c3, rfl, -, -⟩ := (OwR.of ho3).form
        have ho3 := Lib.hid ho3
        have hs3a := hb3.size
        go_wp2_with (at_builtin; go_loud (refine wpList_append_rd _ rfl (.tmp 63) (.tmp 65) 23 rfl (wr.heap.size) 3 i0 (.int .i64 0) 1 8 Try.underlying23 hii hz0 hz1 hz2 rfl (by decide) _ (D).length (iC (D)) rfl ((ho3.out.alloc _)) _ 1 1 rfl (Nat.le_refl _) (by intro h; cases h) (iC [((bnA S v k + (j : Int)) : Int)]) rfl (rd_oneE _ _ _ _ (by simp)) (iC_one _) (by unfold maxLen; omega) (by omega) (by simp; omega) ?_); intro v3 w3 hown3 hgrow3 hwhere3)
        obtain ⟨hb4, -⟩ := append_below (w := wr) hb3 (fun k hk => (ho3.out.lt k hk).1) hgrow3 hwhere3
        have hown4 := own_snocE (M := D ++ [bnA S v k + (j : Int)]) hown3 rfl rfl
        obtain ⟨x4, c4, rfl, -, -⟩ := (OwR.of hown4).form
        have hih := Lib.hid (ihh.out x4 c4 (D ++ [bnA S v k + (j : Int)]) u' T' w3 (by rw [List.length_append, hD.out]; rfl) hE'.out hlT.out (hI'.out.below hb4) (hO'.out.below hb4) (Nat.le_trans hlr hb4.size) (own_more hown4 hlr) (hBr.trans (hb4.mono hBs)))
        have hk4 := Lib.hid (hk'.out.trans (KxT.of_below hb4))
        have hs4 := hb4.size
        clear hown3 hown4 hgrow3 hwhere3 hb4 hb3 ho3
        go_wp2_with fail
        refine hih.out.mono ?_
        rintro e w5 ⟨⟨r, rfl⟩, u5, T5, hI5, hO5, hM5, hk5, hB5⟩
        have hI5 := Lib.hid hI5
        have hO5 := Lib.hid hO5
        have hM5 := Lib.hid hM5
        have hk5 := Lib.hid hk5
        go_wp2
        go_roundw
        case rel => exact ⟨j + 1, u5, T5, by omega, (by first | rfl | rw [hw2] | go_num), hI5.out, hO5.out, (by unfold Hid; rw [hM5.out, hM'.out, hst.out, List.append_assoc]), hk4.out.trans hk5.out, hB5, Nat.le_trans hlr (Nat.le_trans hs4 hk5.out.1)⟩
        case measure => simp [intOf]; omega
      · have hjn : j = (flZ (lvA S k) + 1 - bnA S v k).toNat := by omega
        have hgt : ¬ bnA S v k + (j : Int) ≤ flZ (lvA S k) := by omega
        go_wp2_with fail
        refine (eFull_any _ _ S k (nmA S k) (lvA S k) _ (lvA_bd hsh.out hkl) (at_nm hkl) (hSh.out.rd.below hBr)).mono ?_
        rintro e wq ⟨rfl, rfl⟩
        go_wp2
        go_end0
        exact ⟨⟨_, rfl⟩, u', T', hI'.out, hO'.out, (by rw [hM'.out, hall.out, hjn]), hk'.out, hBr⟩
theorem run_any (g : Nat) (x : Option Addr) (c lo : Nat) (S : List (ByteArray × Int)) (M : List (List Int)) (N : Nat) (v : Int) (W0 : World) (hN2 : N ≤ 262144) (hs : schB S = true) (hS : SIn W0 x c S) (hg0 : W0.heap.size ≤ g) (hl0 : W0.heap.size ≤ lo) : ∀ d k : Nat, k + d = S.length → RunC g x c lo S M N v W0 k
  | 0, k, hk => run_zero g x c lo S M N v W0 hN2 hs hS hg0 hl0 k hk
  | d + 1, k, hk => run_succ g x c lo S M N v W0 hs hS d k hk (run_any g x c lo S M N v W0 hN2 hs hS hg0 hl0 d (k + 1) (by omega))
end Go.Proofs.Ytnmpigedhpdenab
