/- A contract of the program's varint.Put. -/
import Derived.Test.YtaoflfdpagpgaaaDoorBytes
namespace Go.Proofs.YtaoflfdpagpgaaaDoor
open Go.RowKit

def zeros (n : Nat) : List Value := List.replicate n (.int .u8 0)
theorem zeros_length (n : Nat) : (zeros n).length = n := by simp [zeros]
theorem make_bytes (n : Nat) (h : n ≤ 1099511627776) (W : World) :
    (Instr.makeSlice 25 (.int .i64 (n : Int)) (.int .i64 ((n : Int) + 10))).run Tryd.prog W = .ok (.slice (some ⟨W.heap.size, 0, none⟩) n (n + 10)) (W.alloc (.cells (zeros (n + 10)).toArray 5)) := by
  obtain ⟨i0, hi0, hz0, hz1, hz2⟩ := info_parts byte_info
  have hr := run_make (P := Tryd.prog) W 25 5 i0 _ Tryd.underlying25 hi0 hz0 .i64 .i64 (n : Int) ((n : Int) + 10) (by omega) (by omega) (by rw [hz2]; omega) (by omega)
  have e2 : ((n : Int) + 10).toNat = n + 10 := by omega
  have e3 : (madeCells (Value.int .u8 0).cells (n + 10)) = (zeros (n + 10)).toArray := by
    rw [← Array.toList_inj]
    exact toList_madeCells_one _ _
  rw [e2, hz1, Nat.mul_one, e3] at hr
  simpa using hr
theorem splice_own {w : World} {g base n cap : Nat} {xs : List Int} (h : Hid (w.heap[g]? = some (.cells (splice (zeros cap) 0 (xs.map (Value.int .u8))).toArray 5 (0, 0)))) (hb : base ≤ g) (hn : xs.length = n) (hc : n ≤ cap) (hm : cap ≤ maxLen) :
    Own .u8 5 w base (.slice (some ⟨g, 0, none⟩) n cap) xs := by
  subst hn
  refine Own.of_row h.out hb hc hm ?_ ?_
  · rw [length_splice _ _ _ (by simp [zeros_length]; omega), zeros_length]
  · simp [splice]

set_option maxHeartbeats 400000 in
theorem put_any (A : Option Addr) (xs : List Int) (c : Nat) (x : Int) (w : World) (hl : Lies .u8 w w.heap.size A xs) (hc : xs.length ≤ c) (hb : xs.length ≤ 549755813888) (h0 : 0 ≤ x) (h1 : x ≤ 18446744073709551615) :
    Calls Tryd.prog 28 #[.slice A xs.length c, .int .u64 x] w (NewBytes w (xs ++ putL x)) := by
  obtain ⟨i0, hi0, hz0, hz1, hz2⟩ := info_parts byte_info
  have hmk := make_bytes xs.length (by omega)
  have hst := Lib.hid (PutAt.start xs x h1)
  have hlen := putL_length x
  obtain ⟨zs, hzs⟩ : ∃ zs, zs = xs ++ putL x := ⟨_, rfl⟩
  have hzl : zs.length ≤ xs.length + 10 := by rw [hzs, List.length_append]; omega
  rw [← hzs] at hst ⊢
  clear hzs hlen
  have tok : True := trivial
  go_enter Tryd.func28, Tryd.ntmps28
  go_wp2_with (first
    | (with_reducible refine wpList_copy_splice (o := ⟨some 14, _, _, _, _, _⟩) rfl (.tmp 12) (.tmp 13) 25 25 rfl 5 Tryd.underlying25 byte_size (some ⟨w.heap.size, 0, none⟩) A xs.length (xs.length + 10) xs.length c rfl rfl w.heap.size 0 (zeros (xs.length + 10)) 5 ?h1 (xs.map (Value.int .u8)) ?h2 ?h3 ?h4 (oneCell_ints _ _) w.heap.size w ?h5 (Nat.le_refl _) ?h6))
  case h1 => exact heap_alloc_new w _
  case h2 => simp
  case h3 =>
    intro hp

    obtain ⟨b, off, he, hlt, hcell⟩ := hl (by rintro rfl; simp at hp)
    refine ⟨_, he, fun j u hu => ?_⟩
    have hj : j < xs.length := by
      rcases Nat.lt_or_ge j xs.length with h | h
      · exact h
      · rw [List.getElem?_eq_none (by simpa using h)] at hu; cases hu
    rw [add_lit, World.cell?_alloc_lt _ _ _ hlt, hcell j hj]
    simpa [hj] using hu
  case h4 => simp [zeros_length]
  case h5 => exact (Below.refl _ _).alloc (Nat.le_refl _) _
  case h6 =>
    intro w1 hrow hbel
    have hown := splice_own hrow (Nat.le_refl _) rfl (by omega) (by simp only [maxLen]; omega)
    clear hrow hmk hl
    go_wp2_with fail
    go_loopw [1, 5] (fun xv v wr => ∃ (y : Int) (pre : List Int), xv = .int .u64 y ∧ 0 ≤ y ∧ y ≤ 18446744073709551615 ∧ PutAt zs pre y ∧ Own .u8 5 wr w.heap.size v pre ∧ Below w.heap.size w wr)
      (fun xv _ _ => (intOf xv).toNat)
    case atStart => exact ⟨x, xs, rfl, h0, h1, hst.out, hown, hbel⟩
    case round =>
      obtain ⟨y, pre, rfl, hy0, hy1, hat, hown, hbel⟩ := hrel
      have hpl := hat.len
      by_cases hbig : 128 ≤ y
      · have hbs := hbel.size
        go_wp2_with (at_builtin; refine wpList_append_int1 rfl (.tmp 17) (.tmp 22) 25 rfl w.heap.size 5 .u8 i0 1 Tryd.underlying25 hi0 hz0 hz1 hz2 (by decide) _ pre rfl wr (y % 128 + 128) rfl hown rfl (by omega) hbs ?_; intro v' w2 hown2 hbel2)
        have hst2 := hat.step hbig
        go_roundw
        case rel => exact ⟨y / 128, pre ++ [y % 128 + 128], rfl, by omega, by omega, hst2, hown2, hbel.trans hbel2⟩
        case measure => simp [intOf]; omega
      · have hbs := hbel.size
        have hsm : y < 128 := by omega
        go_wp2_with (at_builtin; refine wpList_append_int1 rfl (.tmp 26) (.tmp 29) 25 rfl w.heap.size 5 .u8 i0 1 Tryd.underlying25 hi0 hz0 hz1 hz2 (by decide) _ pre rfl wr y rfl hown rfl (by omega) hbs ?_; intro v' w2 hown2 hbel2)
        go_ret
        exact ⟨v', rfl, by rw [← hat.done hsm]; exact hown2, hbel.trans hbel2⟩

theorem put_nil (x : Int) (w : World) (h0 : 0 ≤ x) (h1 : x ≤ 18446744073709551615) : Calls Tryd.prog 28 #[.slice none 0 0, .int .u64 x] w (NewBytes w (putL x)) :=
  put_any none [] 0 x w Lies.nil (Nat.le_refl _) (by simp) h0 h1

end Go.Proofs.YtaoflfdpagpgaaaDoor
