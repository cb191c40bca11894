/-
  The model's split of a text at a byte; the library's Atoi at every text.
-/
import Derived.Test.YtcmfoclalcmamabGreatDoorPar
import Derived.Test.YtcmfoclalcmamabGreatDoorShelf
import Derived.Test.YtcmfoclalcmamabGreatDoorApp
import Derived.Test.YtcmfoclalcmamabGreatDoorSch
import Derived.Test.YtcmfoclalcmamabGreatDoorTxt
namespace Go.Proofs.YtcmfoclalcmamabGreatDoor
open Go.RowKit
set_option maxRecDepth 100000

/-- What a split hands back. -/
def SplPost (s : ByteArray) (b : UInt8) (w : World) (e : Ending) (w' : World) : Prop :=
  ∃ g cap, e = .returned (.slice (some ⟨g, 0, none⟩) (spL s b).length cap) ∧ w'.ownsRow w.heap.size 9 1 (.slice (some ⟨g, 0, none⟩) (spL s b).length cap) (spL s b).length (tC (spL s b)) ∧ Below w.heap.size w w'
set_option maxHeartbeats 2000000 in
theorem l1Split_any (s : ByteArray) (b : UInt8) (w : World) (hm : s.size ≤ 1048576) :
    Calls Tryz.prog 101 #[.string s, .int .u8 (b.toNat : Int)] w (SplPost s b w) := by
  obtain ⟨i0, hi, hz0, hz1, hz2⟩ := info_parts Tryz.infoStr
  go_enter Tryz.func101, Tryz.ntmps101
  go_wp2
  go_loopw [5, 6, 7] (fun v fr c wr => ∃ (i f : Nat) (L : List ByteArray), i ≤ s.size ∧ f ≤ i ∧ L.length ≤ i ∧ Hid (spS s b i = (L, f)) ∧ c = .int .i64 i ∧ fr = .int .i64 f ∧ wr.ownsRow w.heap.size 9 1 v L.length (tC L) ∧ (∀ k, v.ownBlock = some k → w.heap.size ≤ k) ∧ Below w.heap.size w wr) (fun _ _ c _ => s.size - (intOf c).toNat)
  case atStart => exact ⟨0, 0, [], by omega, by omega, Nat.le_refl _, rfl, rfl, rfl, World.ownsRow_nil _ _ _ _, (by intro k hk; cases hk), Below.refl _ _⟩
  case round =>
    obtain ⟨i, f, L, hi', hf, hlen, hsp, rfl, rfl, hown, hlow, hb⟩ := hrel
    have hbs := hb.size
    have hfi : (f : Int) ≤ (i : Int) := by omega
    have hf0 : (0 : Int) ≤ (f : Int) := by omega
    have hi0 : (0 : Int) ≤ (i : Int) := by omega
    by_cases hlt : i < s.size
    · have hlt' : (i : Int) < (s.size : Int) := by omega
      have hle' : (i : Int) ≤ (s.size : Int) := by omega
      have hfs : (f : Int) ≤ (s.size : Int) := by omega
      have hat : Hid (s.data.toList[i]? = some s[i]) := nmL_at s hlt
      by_cases hc : s[i] = b
      · have he : (((s[i]).toNat : Int) == (b.toNat : Int)) = true := by rw [hc]; exact beq_self_eq_true _
        have hnx : Hid (spS s b (i + 1) = (L ++ [s.extract f i], i + 1)) := by
          unfold Hid
          rw [spS, if_pos (by rw [hat.out, hc]), hsp.out]
        clear hc
        go_wp2_with (at_builtin; refine wpList_append_rd _ rfl (.tmp 19) (.tmp 24) 101 rfl w.heap.size 9 i0 (.string ⟨#[]⟩) 1 16 Tryz.underlying101 hi hz0 hz1 hz2 rfl (by decide) _ L.length (tC L) rfl (hown.alloc _) _ 1 1 rfl (Nat.le_refl _) (by intro h; cases h) (tC [s.extract f i]) rfl (Rd.oneS _ _ _) (tC_one _) (by unfold maxLen; omega) (by omega) (by simp; omega) ?_; intro v1 w1 hown1 hgrow1 hwhere1)
        have hh := append_below hb hlow hgrow1 hwhere1
        exact ⟨⟨i + 1, i + 1, L ++ [s.extract f i], by omega, by omega, by simp; omega, hnx, by go_num, by go_num, own_eq hown1 (by simp) (tC_app _ _).symm, hh.2, hh.1⟩, by simp [intOf]; omega⟩
      · have he : (((s[i]).toNat : Int) == (b.toNat : Int)) = false := by
          rw [beq_eq_false_iff_ne]
          intro h
          exact hc (UInt8.toNat_inj.1 (by omega))
        have hnx : Hid (spS s b (i + 1) = (L, f)) := by
          unfold Hid
          rw [spS, if_neg, hsp.out]
          rw [hat.out]
          intro h
          injection h with h
          exact hc h
        clear hc
        replace hown := Lib.hid hown
        go_wp2
        go_roundw
        case rel => exact ⟨i + 1, f, L, by omega, by omega, by omega, hnx, by go_num, rfl, hown.out, hlow, hb⟩
        case measure => simp [intOf]; omega
    · obtain rfl : i = s.size := by omega
      have hfs : (f : Int) ≤ (s.size : Int) := by omega
      have hnx : Hid (spL s b = L ++ [s.extract f s.size]) := by
        unfold Hid spL
        rw [hsp.out]
      go_wp2_with (at_builtin; refine wpList_append_rd _ rfl (.tmp 28) (.tmp 32) 101 rfl w.heap.size 9 i0 (.string ⟨#[]⟩) 1 16 Tryz.underlying101 hi hz0 hz1 hz2 rfl (by decide) _ L.length (tC L) rfl (hown.alloc _) _ 1 1 rfl (Nat.le_refl _) (by intro h; cases h) (tC [s.extract f s.size]) rfl (Rd.oneS _ _ _) (tC_one _) (by unfold maxLen; omega) (by omega) (by simp; omega) ?_; intro v1 w1 hown1 hgrow1 hwhere1)
      have hh := append_below hb hlow hgrow1 hwhere1
      obtain ⟨g, cap, rfl⟩ := own_some2 hown1 (by omega)
      replace hown1 := Lib.hid hown1
      go_ret
      have hn : (spL s b).length = L.length + 1 := by rw [hnx.out]; simp
      refine ⟨g, cap, by rw [hn]; rfl, ?_, hh.1⟩
      rw [hn, hnx.out, tC_app]
      exact hown1.out

/-- The library's variables, as the program finds them. -/
def LibV (w : World) : Prop :=
  (∃ m, w.cell? ⟨1, 0, none⟩ = some (.int .i64 m)) ∧ 1 < w.heap.size ∧
  (∃ t p, w.var? Tryz.prog "strconv.ErrSyntax" = some #[.iface t p]) ∧ 2 < w.heap.size ∧
  (∃ t p, w.var? Tryz.prog "strconv.ErrRange" = some #[.iface t p]) ∧ 3 < w.heap.size
theorem gSyn : Tryz.prog.globalNamed "strconv.ErrSyntax" = some 2 := by kernel_rfl
theorem gRan : Tryz.prog.globalNamed "strconv.ErrRange" = some 3 := by kernel_rfl
theorem LibV.below {w w' : World} (h : LibV w) (hb : Below w.heap.size w w') : LibV w' := by
  obtain ⟨⟨m, h1⟩, h2, ⟨t, p, h3⟩, h4, ⟨t', p', h5⟩, h6⟩ := h
  have hs := hb.size
  exact ⟨⟨m, (hb.cell h2).trans h1⟩, by omega, ⟨t, p, var?_below hb gSyn h4 h3⟩, by omega, ⟨t', p', var?_below hb gRan h6 h5⟩, by omega⟩
/-- The number that Atoi reads, if it reads one. -/
def atV (s : ByteArray) : Option Int := match Lib.atoiAll s.data.toList with | .ok v => some v | _ => none
theorem atV_i64 {s : ByteArray} {v : Int} (h : atV s = some v) : IsI64 v := by
  unfold atV at h
  cases e : Lib.atoiAll s.data.toList
  case ok u =>
    rw [e] at h
    simp at h
    subst h
    exact Lib.atoiAll_bounds e
  all_goals rw [e] at h; cases h
def AtPost (s : ByteArray) (w : World) (e : Ending) (w' : World) : Prop :=
  Below w.heap.size w w' ∧ ((∃ v, atV s = some v ∧ e = .returned (.tuple #[.int .i64 v, .nilIface])) ∨ (atV s = none ∧ ∃ v t p, e = .returned (.tuple #[.int .i64 v, .iface t (.pointer (some p))])))
theorem atoi_any (s : ByteArray) (w : World) (hm : s.size ≤ 281474976710656) (hL : LibV w) : Calls Tryz.prog 129 #[.string s] w (AtPost s w) := by
  obtain ⟨_, _, ⟨t, p, h3⟩, _, ⟨t', p', h5⟩, _⟩ := hL
  cases e : Lib.atoiAll s.data.toList
  case ok v =>
    refine (Tryz.strconv_Atoi_ok s (by omega) v e w).mono ?_
    rintro e1 w1 ⟨rfl, hw⟩
    refine ⟨?_, Or.inl ⟨v, by unfold atV; rw [e], rfl⟩⟩
    rcases hw with rfl | ⟨u, rfl⟩
    · exact Below.refl _ _
    · exact Lib.bytesWorld_below _ _ _
  case range =>
    refine (Tryz.strconv_Atoi_range_var s hm e t' p' w h5).mono ?_
    rintro e1 w1 ⟨N, rfl, _, _, hb⟩
    exact ⟨hb, Or.inr ⟨by unfold atV; rw [e], _, _, _, rfl⟩⟩
  · refine (Tryz.strconv_Atoi_syntax_var s hm e t p w h3).mono ?_
    rintro e1 w1 ⟨N, rfl, _, _, hb⟩
    exact ⟨hb, Or.inr ⟨by unfold atV; rw [e], _, _, _, rfl⟩⟩

/-- What a cut at a byte gives. -/
def cutA (s : ByteArray) (b : UInt8) : ByteArray := ⟨(Lib.cut s.data.toList [b]).1.toArray⟩
def cutB (s : ByteArray) (b : UInt8) : ByteArray := ⟨(Lib.cut s.data.toList [b]).2.1.toArray⟩
def cutF (s : ByteArray) (b : UInt8) : Bool := (Lib.cut s.data.toList [b]).2.2
theorem cut_sizes (s : ByteArray) (b : UInt8) : (cutA s b).size ≤ s.size ∧ (cutB s b).size ≤ s.size := by
  have e : s.data.toList.length = s.size := by simp
  unfold cutA cutB Lib.cut
  split
  · simp only [ByteArray.size, List.size_toArray, List.length_take, List.length_drop] at e ⊢
    omega
  · simp only [ByteArray.size, List.size_toArray, List.length_nil] at e ⊢
    omega
theorem cut_x (s : ByteArray) (b : UInt8) (w : World) (hm : s.size ≤ 1048576) (hL : LibV w) :
    Calls Tryz.prog 128 #[.string s, .string ⟨#[b]⟩] w fun e w' => e = .returned (.tuple #[.string (cutA s b), .string (cutB s b), .bool (cutF s b)]) ∧ Below w.heap.size w w' := by
  obtain ⟨⟨m, hm1⟩, _⟩ := hL
  refine (Tryz.strings_Cut s ⟨#[b]⟩ m w (by omega) hm1).mono ?_
  rintro e w' ⟨rfl, n, rfl⟩
  exact ⟨rfl, below_drewN (Below.refl _ _) n⟩
end Go.Proofs.YtcmfoclalcmamabGreatDoor
