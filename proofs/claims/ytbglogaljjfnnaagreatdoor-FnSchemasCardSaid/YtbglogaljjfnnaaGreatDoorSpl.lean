/-
  The model's split of a text at a byte; the library's Atoi at every text.
-/
import Derived.Test.YtbglogaljjfnnaaGreatDoorPar
import Derived.Test.YtbglogaljjfnnaaGreatDoorShelf
import Derived.Test.YtbglogaljjfnnaaGreatDoorApp
import Derived.Test.YtbglogaljjfnnaaGreatDoorSch
namespace Go.Proofs.YtbglogaljjfnnaaGreatDoor
open Go.RowKit
set_option maxRecDepth 100000

theorem Tryz.infoStr : (Tryz.prog.info? 9).map (fun i => (i.zero, i.size, i.bytes)) = some (some (.string ⟨#[]⟩), 1, 16) := by kernel_rfl
/-- The cells of a list of texts. -/
def tC (L : List ByteArray) : List Value := L.map Value.string
theorem tC_len (L : List ByteArray) : (tC L).length = L.length := by unfold tC; simp
theorem tC_app (A B : List ByteArray) : tC (A ++ B) = tC A ++ tC B := by unfold tC; rw [List.map_append]
theorem tC_one (L : List ByteArray) : ∀ u ∈ tC L, u.oneCell' = true := by
  intro u hu
  obtain ⟨x, _, rfl⟩ := List.mem_map.1 hu
  rfl
theorem tC_at {L : List ByteArray} {i : Nat} {v : ByteArray} (h : L[i]? = some v) : (tC L)[i]? = some (.string v) := by unfold tC; rw [List.getElem?_map, h]; rfl
theorem Rd.oneS (w : World) (t : TypeId) (s : ByteArray) : Rd (w.alloc (.cells #[.string s] t)) (some ⟨w.heap.size, 0, none⟩) (tC [s]) := by
  refine Or.inr ⟨w.heap.size, 0, rfl, by simp, fun j u hj => ?_⟩
  have : j = 0 := by
    have := (List.getElem?_eq_some_iff.1 hj).1
    simp [tC] at this
    exact this
  subst this
  simp [tC] at hj
  subst hj
  rw [World.cell?_alloc_at _ _ _ _ rfl]
  rfl
theorem Rd.text {w : World} {x : Option Addr} {L : List ByteArray} {i : Nat} (h : Rd w x (tC L)) (hi : i < L.length) :
    ∃ b off s, x = some ⟨b, off, none⟩ ∧ b < w.heap.size ∧ L[i]? = some s ∧ w.cell? ⟨b, off + i, none⟩ = some (.string s) := by
  rcases h with h | ⟨b, off, e, hl, hc⟩
  · have := tC_len L
    rw [h] at this
    simp at this
    omega
  · exact ⟨b, off, L[i], e, hl, List.getElem?_eq_getElem hi, hc i _ (tC_at (List.getElem?_eq_getElem hi))⟩

theorem own_some2 {w : World} {base e size n : Nat} {v : Value} {xs : List Value} (h : w.ownsRow base e size v n xs) (hn : 0 < n) : ∃ g cap, v = .slice (some ⟨g, 0, none⟩) n cap := by
  rcases h.2 with ⟨_, h2⟩ | ⟨g, cap, cur, hv, _⟩
  · omega
  · exact ⟨g, cap, hv⟩
/-- What a split hands back. -/
def SplPost (s : ByteArray) (b : UInt8) (w : World) (e : Ending) (w' : World) : Prop :=
  ∃ g cap, e = .returned (.slice (some ⟨g, 0, none⟩) (spL s b).length cap) ∧ w'.ownsRow w.heap.size 9 1 (.slice (some ⟨g, 0, none⟩) (spL s b).length cap) (spL s b).length (tC (spL s b)) ∧ Below w.heap.size w w'
/-- The library's variables, as the program finds them. -/
def LibV (w : World) : Prop :=
  (∃ m, w.cell? ⟨1, 0, none⟩ = some (.int .i64 m)) ∧ 1 < w.heap.size ∧
  (∃ t p, w.var? Tryz.prog "strconv.ErrSyntax" = some #[.iface t p]) ∧ 2 < w.heap.size ∧
  (∃ t p, w.var? Tryz.prog "strconv.ErrRange" = some #[.iface t p]) ∧ 3 < w.heap.size
theorem gSyn : Tryz.prog.globalNamed "strconv.ErrSyntax" = some 2 := by kernel_rfl
theorem gRan : Tryz.prog.globalNamed "strconv.ErrRange" = some 3 := by kernel_rfl
theorem LibV.below {w w' : World} (h : LibV w) (hb : Below w.heap.size w w') : LibV w' := by
  obtain ⟨⟨m, h1⟩, h2, ⟨t, p, h3⟩, h4, ⟨t', p', h5⟩, h6⟩ := h
  have hs := hb.size
  exact ⟨⟨m, (hb.cell h2).trans h1⟩, by omega, ⟨t, p, var?_below hb gSyn h4 h3⟩, by omega, ⟨t', p', var?_below hb gRan h6 h5⟩, by omega⟩
/-- The number that Atoi reads, if it reads one. -/
def atV (s : ByteArray) : Option Int := match Lib.atoiAll s.data.toList with | .ok v => some v | _ => none
theorem atV_i64 {s : ByteArray} {v : Int} (h : atV s = some v) : IsI64 v := by
  unfold atV at h
  cases e : Lib.atoiAll s.data.toList
  case ok u =>
    rw [e] at h
    simp at h
    subst h
    exact Lib.atoiAll_bounds e
  all_goals rw [e] at h; cases h
def AtPost (s : ByteArray) (w : World) (e : Ending) (w' : World) : Prop :=
  Below w.heap.size w w' ∧ ((∃ v, atV s = some v ∧ e = .returned (.tuple #[.int .i64 v, .nilIface])) ∨ (atV s = none ∧ ∃ v t p, e = .returned (.tuple #[.int .i64 v, .iface t (.pointer (some p))])))
theorem atoi_any (s : ByteArray) (w : World) (hm : s.size ≤ 281474976710656) (hL : LibV w) : Calls Tryz.prog 61 #[.string s] w (AtPost s w) := by
  obtain ⟨_, _, ⟨t, p, h3⟩, _, ⟨t', p', h5⟩, _⟩ := hL
  cases e : Lib.atoiAll s.data.toList
  case ok v =>
    refine (Tryz.strconv_Atoi_ok s (by omega) v e w).mono ?_
    rintro e1 w1 ⟨rfl, hw⟩
    refine ⟨?_, Or.inl ⟨v, by unfold atV; rw [e], rfl⟩⟩
    rcases hw with rfl | ⟨u, rfl⟩
    · exact Below.refl _ _
    · exact Lib.bytesWorld_below _ _ _
  case range =>
    refine (Tryz.strconv_Atoi_range_var s hm e t' p' w h5).mono ?_
    rintro e1 w1 ⟨N, rfl, _, _, hb⟩
    exact ⟨hb, Or.inr ⟨by unfold atV; rw [e], _, _, _, rfl⟩⟩
  · refine (Tryz.strconv_Atoi_syntax_var s hm e t p w h3).mono ?_
    rintro e1 w1 ⟨N, rfl, _, _, hb⟩
    exact ⟨hb, Or.inr ⟨by unfold atV; rw [e], _, _, _, rfl⟩⟩

/-- What a cut at a byte gives. -/
def cutA (s : ByteArray) (b : UInt8) : ByteArray := ⟨(Lib.cut s.data.toList [b]).1.toArray⟩
def cutB (s : ByteArray) (b : UInt8) : ByteArray := ⟨(Lib.cut s.data.toList [b]).2.1.toArray⟩
def cutF (s : ByteArray) (b : UInt8) : Bool := (Lib.cut s.data.toList [b]).2.2
theorem cut_sizes (s : ByteArray) (b : UInt8) : (cutA s b).size ≤ s.size ∧ (cutB s b).size ≤ s.size := by
  have e : s.data.toList.length = s.size := by simp
  unfold cutA cutB Lib.cut
  split
  · simp only [ByteArray.size, List.size_toArray, List.length_take, List.length_drop] at e ⊢
    omega
  · simp only [ByteArray.size, List.size_toArray, List.length_nil] at e ⊢
    omega
theorem cut_x (s : ByteArray) (b : UInt8) (w : World) (hm : s.size ≤ 1048576) (hL : LibV w) :
    Calls Tryz.prog 60 #[.string s, .string ⟨#[b]⟩] w fun e w' => e = .returned (.tuple #[.string (cutA s b), .string (cutB s b), .bool (cutF s b)]) ∧ Below w.heap.size w w' := by
  obtain ⟨⟨m, hm1⟩, _⟩ := hL
  refine (Tryz.strings_Cut s ⟨#[b]⟩ m w (by omega) hm1).mono ?_
  rintro e w' ⟨rfl, n, rfl⟩
  exact ⟨rfl, below_drewN (Below.refl _ _) n⟩
end Go.Proofs.YtbglogaljjfnnaaGreatDoor
