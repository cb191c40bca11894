import Derived.Test.YtmcibcechffppaaKit
import Derived.CallsIn
import Derived.OrdersHeld
import Derived.OrdersIn
import Derived.RangeFuncCalls
import Derived.Deep.RegionHeld
import Derived.Test.YtmcibcechffppaaPnA
import Derived.Test.YtmcibcechffppaaShelf
import Derived.Laws.CopyOwn
namespace Go.Proofs.Ytmcibcechffppaa

/-- The post, where a region ends as it should, and nothing else. -/
def OnlyN (Q : Exit → Act → World → Prop) : Exit → Act → World → Prop
  | .normal, a, w => Q .normal a w
  | _, _, _ => False

theorem OnlyN.normal {Q : Exit → Act → World → Prop} {a : Act} {w : World} (h : Q .normal a w) : OnlyN Q .normal a w := h
def noDefer (ops : Array Oper) : Bool := ops.all fun o => match o.op with | .defer _ => false | _ => true
theorem noDefer_spec {ops : Array Oper} (h : noDefer ops = true) (i : Nat) (o : Oper) (c : Call) (ho : ops[i]? = some o) : o.op ≠ .defer c := by
  intro heq
  have := Array.all_eq_true_iff_forall_mem.1 h o (Array.mem_of_getElem? ho)
  simp [heq] at this

theorem opsIn_of {P : Program} {ops : Array Oper} {Q : Exit → Act → World → Prop} {l n : Nat} (hd : noDefer ops = true) :
    ∀ (L : List Nat) (a : Act) (w : World), wpOps P ops (OnlyN Q) L a w → wpOpsIn (Fence.wide.inRound l) n P ops Q L a w := by
  intro L
  induction L with
  | nil => exact fun a w h => h
  | cons i rest ih =>
    intro a w h
    simp only [wpOps, wpOpsIn] at h ⊢
    cases ho : ops[i]? with
    | none =>
      simp only [ho] at h ⊢
      exact ih _ _ h
    | some o =>
      simp only [ho] at h ⊢
      by_cases hw : Region.wanted o (yielded ops a.tmps) = true
      · rw [if_pos hw] at h ⊢
        rcases h with h | ⟨_, a', w', hl⟩
        · refine ⟨fun _ _ => trivial, ?_⟩
          rw [Oper.semAt_eq _ _ _ (fun c => noDefer_spec hd i o c ho)]
          unfold Oper.wp at h
          generalize (execOp a.eval o).run P w = r at h ⊢
          cases r with
          | ok x w' =>
            cases x <;> simp only [Oper.upon, Oper.uponIn] at h ⊢
            case value v => exact ih _ _ h
            case skip => exact ih _ _ h
            case defer d => exact ih _ _ h
            case enter f args =>
              refine ⟨fun hx => by simp [Fence.wide] at hx, ?_⟩
              refine (CallsIn.inRound l (callsIn_wide.2 h)).mono ?_
              intro e w'' he
              cases e with
              | returned v => exact ih _ _ he
              | panicked c => exact he.elim
              | outgrown => exact (he.elim fun _ h1 => h1.elim fun _ h2 => h2.elim)
            case row row args =>
              refine ⟨fun hx => by simp [Fence.wide] at hx, ?_⟩
              intro c cs _
              obtain ⟨v, w'', hv, hs⟩ := h c cs
              exact ⟨v, w'', ih _ _ hv, (StepsIn.of_steps hs).mono fun m _ => fenced_wide P m⟩
          | halt x w' =>
            cases x <;> simp only [Oper.upon, Oper.uponIn] at h ⊢
            case panic v => exact h.elim
        · exact hl.elim
      · rw [if_neg hw] at h ⊢
        exact ⟨fun _ _ => trivial, ih _ _ h⟩

theorem wpIn_region_heldN {P : Program} {id l n : Nat} {ops : Array Oper} {Q : Exit → Act → World → Prop} {S : World → Prop} {a : Act} {w : World}
    (hm : P.follows .mixedOrders = true) (hd : noDefer ops = true) (hS : S w.drew)
    (h : S w.drew → wpAnyH P .any ops (OnlyN Q) S ops.size (Array.replicate ops.size false) a w.drew) :
    (Code.region id ops true).wpIn (Fence.wide.inRound l) n P Q a w :=
  wpIn_region_draw fun t => by
    simp only [Region.schedule, hm, Bool.true_or, if_true]
    exact opsIn_of hd _ _ _ (wpAny_sound ops.size t _ a _ (wpAny_of_held _ _ _ _ (h hS)))
end Go.Proofs.Ytmcibcechffppaa

namespace Go.Proofs.Ytmcibcechffppaa
open Go.RowKit Go.Shelf
set_option maxRecDepth 100000

/-- An edit in a row of its own, handed back. -/
def WlPost (n : Nat) (L : List Int) (w : World) (e : Ending) (w' : World) : Prop := ∃ u c, e = .returned (.agg #[.slice u n c]) ∧ w'.ownsRow w.heap.size 3 1 (.slice u n c) n (iC L) ∧ Below w.heap.size w w'
set_option maxHeartbeats 2000000 in
theorem withLevel_any (z : Option Addr) (cz : Nat) (S : List (ByteArray × Int)) (E : List Int) (i l : Nat) (w : World) (hs : schB S = true) (hE : edB S E = true) (hi : i < S.length) (hl : (l : Int) < lvA S i) (hz : Rd w z (iC E)) (hcz : E.length ≤ cz) :
    Calls Try.prog 99 #[.agg #[.slice z E.length cz], .int .i64 i, .int .i64 l] w (WlPost E.length (wlL E i l) w) := by
  have hlE := ed_len hE
  have hl6 := (schB_len hs).2
  obtain ⟨nm, lv, xv, hSi, hEi, x1, x2, y1, y2, x3⟩ := ed_at hs hE hi
  obtain ⟨bl, off, xv', rfl, hbl, hEi2, hc0⟩ := hz.int (i := i) (by omega)
  obtain rfl := Option.some.inj (hEi2.symm.trans hEi)
  obtain ⟨p1, p2⟩ := pw_bd hl
  have hp255 := flZ_bd (lvA_bd hs hi)
  have hor := or_jo (x := xv') (y := 2 ^ l) (by omega) (by omega) (by omega) (by omega)
  have hww : wrap64 (2 ^ l : Int) = 2 ^ l := IntWalk.wrap64_in _ (by omega)
  have hst := Lib.hid (wl_at l hEi)
  have hEih := Lib.hid hEi
  have hlE6 : E.length ≤ 6 := by omega
  have hl7 : l ≤ 7 := by have := (lvA_bd hs hi).2; omega
  have hil : i < E.length := by omega
  have hi' : (i : Int) < (E.length : Int) := by omega
  have hi0 : (0 : Int) ≤ (i : Int) := by omega
  have hl0 : (0 : Int) ≤ (l : Int) := by omega
  have hq := Lib.hid (QB.new w (some ⟨bl, off, none⟩) E.length cz 62)
  have hb0 : Below w.heap.size w ((w.alloc (.cells #[.slice (some ⟨bl, off, none⟩) E.length cz] 62)).alloc (.cells #[.slice none 0 0] 62)) := (by repeat (first | exact Below.refl _ _ | assumption | refine Below.drew ?_ | refine below_drewN ?_ _ | refine Below.alloc' ?_ _ | (refine Below.setCell ?_ (by first | omega | (simp; done) | (simp; omega) | exact Below.size (by assumption) | exact Nat.le_trans (Below.size (by assumption)) (by simp)) _) | (refine Below.via' ?_ (by assumption)) | (refine Below.alloc ?_ (by first | omega | (simp; done) | (simp; omega) | exact Below.size (by assumption) | exact Nat.le_trans (Below.size (by assumption)) (by simp)) _) | (refine Below.via ?_ (by assumption) (by first | omega | (simp; done) | (simp; omega) | exact Below.size (by assumption) | exact Nat.le_trans (Below.size (by assumption)) (by simp)))))
  have hb01 : Below (w.alloc (.cells #[.slice (some ⟨bl, off, none⟩) E.length cz] 62)).heap.size (w.alloc (.cells #[.slice (some ⟨bl, off, none⟩) E.length cz] 62)) ((w.alloc (.cells #[.slice (some ⟨bl, off, none⟩) E.length cz] 62)).alloc (.cells #[.slice none 0 0] 62)) := (Below.refl _ _).alloc (Nat.le_refl _) _
  have hRes : Wb ((w.alloc (.cells #[.slice (some ⟨bl, off, none⟩) E.length cz] 62)).alloc (.cells #[.slice none 0 0] 62)) (w.heap.size + 1) 62 #[.slice none 0 0] := by
    have h0 := Wb.new (w.alloc (.cells #[.slice (some ⟨bl, off, none⟩) E.length cz] 62)) 62 #[.slice none 0 0]
    rwa [World.size_alloc] at h0
  have hq1 := hq.out.below hb01
  obtain ⟨W1, hW1⟩ : ∃ W1, (w.alloc (.cells #[.slice (some ⟨bl, off, none⟩) E.length cz] 62)).alloc (.cells #[.slice none 0 0] 62) = W1 := ⟨_, rfl⟩
  rw [hW1] at hb0 hRes hq1
  have hzh := Lib.hid (hz.below hb0)
  have hs1 : W1.heap.size = w.heap.size + 2 := by rw [← hW1]; simp
  clear hEi2 hEi hSi hc0 hs hE hz hb01 hq hlE
  obtain ⟨ka, kb, kc⟩ := hq1
  have hW1h := Lib.hid hW1
  clear hW1
  go_enter Try.func99, Try.ntmps99
  go_wp2_with fail
  rw [hW1h.out]
  refine (cloneInt_any _ cz E W1 (by omega) hcz (by intro h; cases h) hzh.out).mono ?_
  rintro e w3 ⟨u3, rfl, ho3, hb3⟩
  obtain ⟨g3, c3, rfl⟩ := own_some ho3 (by omega)
  have hlow3 := own_lt ho3
  obtain ⟨u0, hu0, f0⟩ := own_cell ho3 (j := i) (by omega)
  obtain rfl : u0 = .int .i64 xv' := Option.some.inj (hu0.symm.trans (iC_at hEih.out))
  have k2 := ho3.frozenAt i
  have hsto := Lib.hid (ho3.stored i (.int .i64 (joI xv' (2 ^ l)))).1
  have R3 := hRes.kept hb3
  have r1 := R3.read 0
  have r2 := R3.free 0
  have r3 := R3.inside
  have hB3 : Below w.heap.size w w3 := hb0.trans (hb3.mono hb0.size)
  have hR3h := Lib.hid R3
  have hne : w.heap.size + 1 ≠ g3 := by omega
  clear hu0 ho3 R3 hb3
  go_wp2
  go_region
  all_goals
    have hwl : Hid ((iC E).set i (.int .i64 (joI xv' (2 ^ l))) = iC (wlL E i l)) := by unfold Hid; rw [hst.out]; unfold iC; rw [List.map_set]
    have hval : bits .or .i64 xv' (wrap64 (2 ^ min l 64)) = joI xv' (2 ^ l) := by rw [show min l 64 = l by omega, hww, hor]
    go_wp2_with fail
    try rw [hval]
    refine bodyPost_ret (v := .agg #[.slice (some ⟨g3, 0, none⟩) E.length c3]) (by simp [results, Try.results99, go_sem, *]) rfl ⟨_, _, rfl, ?_, ?_⟩
    · have h0 := hsto.out
      rw [hwl.out] at h0
      exact (own_more (h0.kept (grownBy_setCell' _ _ _) (.inr (fun e => hne (by injection e with e; exact e.symm)))) hb0.size).drew
    · exact Below.drew ((hB3.setCell (p := ⟨g3, i, none⟩) (by show w.heap.size ≤ g3; omega) _).setCell (p := ⟨w.heap.size + 1, 0, none⟩) (by show w.heap.size ≤ w.heap.size + 1; omega) _)
/-- A row that begins with ones. -/
def onL (n m : Nat) : List Int := List.replicate n 1 ++ List.replicate (m - n) 0
theorem on_len {n m : Nat} (h : n ≤ m) : (onL n m).length = m := by unfold onL; simp; omega
theorem made_on (n : Nat) : (madeCells (Value.int .i64 0).cells (n * 1)).toList = iC (onL 0 n) := by
  apply List.ext_getElem?
  intro j
  unfold iC onL
  rw [List.replicate_zero, List.nil_append, Nat.sub_zero, List.map_replicate, List.getElem?_replicate]
  by_cases h : j < n
  · simp [madeCells, Value.cells, h, Nat.mod_one]
  · simp [madeCells, Value.cells, h]
theorem on_full (m : Nat) : onL m m = List.replicate m 1 := by unfold onL; simp
theorem on_at {n m j : Nat} (h : j < n) : (onL n m)[j]? = some 1 := by
  unfold onL
  rw [List.getElem?_append_left (by rw [List.length_replicate]; exact h), List.getElem?_replicate, if_pos h]
theorem on_cells (n m : Nat) : iC (onL n m) = List.replicate n (Value.int .i64 1) ++ List.replicate (m - n) (Value.int .i64 0) := by unfold iC onL; rw [List.map_append, List.map_replicate, List.map_replicate]
theorem on_splice {n k m : Nat} (h : n + k ≤ m) : splice (iC (onL n m)) n (iC (List.replicate k 1)) = iC (onL (n + k) m) := by
  have e1 : (List.replicate n (Value.int .i64 1) ++ List.replicate (m - n) (Value.int .i64 0)).take n = List.replicate n (Value.int .i64 1) := by rw [List.take_append_of_le_length (by simp), List.take_of_length_le (by simp)]
  have e2 : (List.replicate n (Value.int .i64 1) ++ List.replicate (m - n) (Value.int .i64 0)).drop (n + k) = List.replicate (m - (n + k)) (Value.int .i64 0) := by
    rw [List.drop_append, List.drop_eq_nil_of_le (by simp), List.length_replicate, List.nil_append, List.drop_replicate]
    congr 1
    omega
  have e3 : iC (List.replicate k 1) = List.replicate k (Value.int .i64 1) := by unfold iC; rw [List.map_replicate]
  unfold splice
  rw [e3, List.length_replicate, on_cells, on_cells, e1, e2, ← List.append_assoc, List.replicate_append_replicate]
theorem own_heapL {w : World} {base e g n : Nat} {xs : List Value} (h : w.ownsRow base e 1 (.slice (some ⟨g, 0, none⟩) n n) n xs) : w.heap[g]? = some (.cells xs.toArray e (0, 0)) := by
  rcases h.2 with ⟨h1, _⟩ | ⟨g', cap, cur, hv, _, hg, _, _, hs, ht⟩
  · cases h1
  · injection hv with h1 h2 h3
    injection h1 with h1
    injection h1 with h1
    subst h1 h3
    rw [hg, ← ht]
    congr 2
    rw [List.take_of_length_le (by rw [Array.length_toList, hs]; exact Nat.le_refl _)]
theorem own_of_heapL {w : World} {base e g n : Nat} {xs : List Value} (hg : w.heap[g]? = some (.cells xs.toArray e (0, 0))) (hb : base ≤ g) (hl : xs.length = n) (hm : n ≤ maxLen) : w.ownsRow base e 1 (.slice (some ⟨g, 0, none⟩) n n) n xs :=
  ⟨by omega, .inr ⟨g, n, xs.toArray, rfl, hb, hg, Nat.le_refl _, hm, by simp [hl], by simp [← hl]⟩⟩
end Go.Proofs.Ytmcibcechffppaa
