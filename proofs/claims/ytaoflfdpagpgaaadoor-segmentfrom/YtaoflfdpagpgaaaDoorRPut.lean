/- A contract of the document's own Put. -/
import Derived.Test.YtaoflfdpagpgaaaDoorBytes
namespace Go.Proofs.YtaoflfdpagpgaaaDoor
open Go.RowKit

set_option maxHeartbeats 400000 in
theorem refput_any (A : Option Addr) (xs : List Int) (c : Nat) (x : Int) (w : World) (hl : Lies .u8 w w.heap.size A xs) (hc : xs.length ≤ c) (hA : A = none → c = 0) (hb : xs.length ≤ 549755813888) (h0 : 0 ≤ x) (h1 : x ≤ 18446744073709551615) :
    Calls Tryd.prog 34 #[.slice A xs.length c, .int .u64 x] w (NewBytes w (xs ++ putL x)) := by
  obtain ⟨i0, hi0, hz0, hz1, hz2⟩ := info_parts byte_info
  have hst := Lib.hid (PutAt.start xs x h1)
  have hlen := putL_length x
  obtain ⟨zs, hzs⟩ : ∃ zs, zs = xs ++ putL x := ⟨_, rfl⟩
  have hzl : zs.length ≤ xs.length + 10 := by rw [hzs, List.length_append]; omega
  rw [← hzs] at hst ⊢
  clear hzs hlen
  have HA := Lib.hid hA
  clear hA
  go_enter Tryd.func34, Tryd.ntmps34
  go_wp2_with (at_builtin; refine wpList_append_ints rfl (.const (.slice none 0 0)) (.tmp 5) 25 rfl w.heap.size 5 .u8 i0 1 Tryd.underlying25 hi0 hz0 hz1 hz2 (by decide) (.slice none 0 0) [] rfl Own.nil w.heap.size A xs.length c xs rfl rfl hc hl (by simp; omega) (Nat.le_refl _) HA.out ?_; intro v1 w1 hown hgr _)
  have hbel : Below w.heap.size w w1 := (Own.nil (k := .u8) (e := 5) (w := w) (base := w.heap.size)).grown_below hgr (Nat.le_refl _)
  clear hgr hl HA
  go_loopw [1, 0] (fun xv v wr => ∃ (y : Int) (pre : List Int), xv = .int .u64 y ∧ 0 ≤ y ∧ y ≤ 18446744073709551615 ∧ PutAt zs pre y ∧ Own .u8 5 wr w.heap.size v pre ∧ Below w.heap.size w wr)
    (fun xv _ _ => (intOf xv).toNat)
  case atStart => exact ⟨x, xs, rfl, h0, h1, hst.out, hown, hbel⟩
  case round =>
    obtain ⟨y, pre, rfl, hy0, hy1, hat, hown, hbel⟩ := hrel
    have hpl := hat.len
    have hbs := hbel.size
    by_cases hbig : 127 < y
    · have hst2 := hat.step (by omega)
      have e1 := u64_and127 y hy0 hy1
      have e2 := u8_or128_right (y % 128) (by omega) (by omega)
      go_wp2_with (at_builtin; refine wpList_append_int1 rfl (.tmp 9) (.tmp 14) 25 rfl w.heap.size 5 .u8 i0 1 Tryd.underlying25 hi0 hz0 hz1 hz2 (by decide) _ pre rfl wr (y % 128 + 128) rfl hown rfl (by omega) hbs ?_; intro v' w2 hown2 hbel2)
      go_roundw
      case rel => exact ⟨y / 128, pre ++ [y % 128 + 128], rfl, by omega, by omega, hst2, hown2, hbel.trans hbel2⟩
      case measure => simp [intOf]; omega
    · have hsm : y < 128 := by omega
      go_wp2_with (at_builtin; refine wpList_append_int1 rfl (.tmp 18) (.tmp 21) 25 rfl w.heap.size 5 .u8 i0 1 Tryd.underlying25 hi0 hz0 hz1 hz2 (by decide) _ pre rfl wr y rfl hown rfl (by omega) hbs ?_; intro v' w2 hown2 hbel2)
      go_ret
      exact ⟨v', rfl, by rw [← hat.done hsm]; exact hown2, hbel.trans hbel2⟩

end Go.Proofs.YtaoflfdpagpgaaaDoor
