/- A contract of the document's own Put. · A contract of the document's own Get. · Contracts of the document's own Fold and Unfold. -/
import Derived.Test.YtffmfgbjlijpeaaDoorBytes
import Derived.Test.YtffmfgbjlijpeaaDoorNums
namespace Go.Proofs.YtffmfgbjlijpeaaDoor
open Go.RowKit

set_option maxHeartbeats 400000 in
theorem refput_any (A : Option Addr) (xs : List Int) (c : Nat) (x : Int) (w : World) (hl : Lies .u8 w w.heap.size A xs) (hc : xs.length ≤ c) (hA : A = none → c = 0) (hb : xs.length ≤ 549755813888) (h0 : 0 ≤ x) (h1 : x ≤ 18446744073709551615) :
    Calls Tryd.prog 35 #[.slice A xs.length c, .int .u64 x] w (NewBytes w (xs ++ putL x)) := by
  obtain ⟨i0, hi0, hz0, hz1, hz2⟩ := info_parts byte_info
  have hst := Lib.hid (PutAt.start xs x h1)
  have hlen := putL_length x
  obtain ⟨zs, hzs⟩ : ∃ zs, zs = xs ++ putL x := ⟨_, rfl⟩
  have hzl : zs.length ≤ xs.length + 10 := by rw [hzs, List.length_append]; omega
  rw [← hzs] at hst ⊢
  clear hzs hlen
  have HA := Lib.hid hA
  clear hA
  go_enter Tryd.func35, Tryd.ntmps35
  go_wp2_with (at_builtin; refine wpList_append_ints rfl (.const (.slice none 0 0)) (.tmp 5) 33 rfl w.heap.size 5 .u8 i0 1 Tryd.underlying33 hi0 hz0 hz1 hz2 (by decide) (.slice none 0 0) [] rfl Own.nil w.heap.size A xs.length c xs rfl rfl hc hl (by simp; omega) (Nat.le_refl _) HA.out ?_; intro v1 w1 hown hgr _)
  have hbel : Below w.heap.size w w1 := (Own.nil (k := .u8) (e := 5) (w := w) (base := w.heap.size)).grown_below hgr (Nat.le_refl _)
  clear hgr hl HA
  go_loopw [1, 0] (fun xv v wr => ∃ (y : Int) (pre : List Int), xv = .int .u64 y ∧ 0 ≤ y ∧ y ≤ 18446744073709551615 ∧ PutAt zs pre y ∧ Own .u8 5 wr w.heap.size v pre ∧ Below w.heap.size w wr)
    (fun xv _ _ => (intOf xv).toNat)
  case atStart => exact ⟨x, xs, rfl, h0, h1, hst.out, hown, hbel⟩
  case round =>
    obtain ⟨y, pre, rfl, hy0, hy1, hat, hown, hbel⟩ := hrel
    have hpl := hat.len
    have hbs := hbel.size
    by_cases hbig : 127 < y
    · have hst2 := hat.step (by omega)
      have e1 := u64_and127 y hy0 hy1
      have e2 := u8_or128_right (y % 128) (by omega) (by omega)
      go_wp2_with (at_builtin; refine wpList_append_int1 rfl (.tmp 9) (.tmp 14) 33 rfl w.heap.size 5 .u8 i0 1 Tryd.underlying33 hi0 hz0 hz1 hz2 (by decide) _ pre rfl wr (y % 128 + 128) rfl hown rfl (by omega) hbs ?_; intro v' w2 hown2 hbel2)
      go_roundw
      case rel => exact ⟨y / 128, pre ++ [y % 128 + 128], rfl, by omega, by omega, hst2, hown2, hbel.trans hbel2⟩
      case measure => simp [intOf]; omega
    · have hsm : y < 128 := by omega
      go_wp2_with (at_builtin; refine wpList_append_int1 rfl (.tmp 18) (.tmp 21) 33 rfl w.heap.size 5 .u8 i0 1 Tryd.underlying33 hi0 hz0 hz1 hz2 (by decide) _ pre rfl wr y rfl hown rfl (by omega) hbs ?_; intro v' w2 hown2 hbel2)
      go_ret
      exact ⟨v', rfl, by rw [← hat.done hsm]; exact hown2, hbel.trans hbel2⟩

end Go.Proofs.YtffmfgbjlijpeaaDoor

namespace Go.Proofs.YtffmfgbjlijpeaaDoor
open Go.RowKit

set_option maxHeartbeats 800000 in
theorem refget_any (A : Option Addr) (xs : List Int) (c : Nat) (w : World) (hl : Lies .u8 w w.heap.size A xs) (hby : IsBytes xs) :
    Calls Tryd.prog 54 #[.slice A xs.length c] w (Tells (getR xs) w) := by
  have hst := Lib.hid (GetAt.start xs)
  obtain ⟨r, hr⟩ : ∃ r, r = getR xs := ⟨_, rfl⟩
  rw [← hr] at hst ⊢
  clear hr
  go_enter Tryd.func54, Tryd.ntmps54
  go_wp2_with fail
  go_loop [5, 6, 7] (fun xv iv _ => ∃ (k : Nat) (acc : Int), xv = .int .u64 acc ∧ iv = .int .i64 k ∧ k ≤ xs.length ∧ GetAt r xs k acc)
    (fun _ iv _ => xs.length - (intOf iv).toNat)
  case atStart => exact ⟨0, 0, rfl, rfl, Nat.zero_le _, hst.out⟩
  case round =>
    obtain ⟨k, acc, rfl, rfl, hk, hat⟩ := hrel
    obtain ⟨hk9, ha0, ha1⟩ := hat.bounds
    by_cases hlt : k < xs.length
    · obtain ⟨b, off, rfl, hbl, hcell⟩ := hl.at_ hlt
      obtain ⟨hc0, hc1⟩ := hby.at_ hlt
      obtain ⟨q, hq⟩ : ∃ q, xs[k] = q := ⟨_, rfl⟩
      rw [hq] at hcell hc0 hc1
      have HQ := Lib.hid hq
      clear hq
      have hor := fun h2 => hat.joined hc0 h2
      have h127 := u8_and127 q hc0 hc1
      by_cases h9 : k = 9
      · have h9b : (((k : Nat) : Int) == 9) = true := by simp; omega
        have h9g : 9 ≤ k := by omega
        by_cases h1 : 1 < q
        · have hfin := Lib.hid (hat.long hlt HQ.out h9 h1)
          clear hor h9
          go_wp2
          go_ret3
          exact Tells.mk hfin.out
        · have hor' := hor (by omega)
          clear hor
          by_cases h0 : q = 0
          · have hfin := Lib.hid (hat.zero hlt (HQ.out.trans h0) (by omega))
            have h0b : (q == 0) = true := by simp [h0]
            have hkp : (0 : Int) < (k : Int) := by omega
            clear h0 h9
            go_wp2
            go_ret3
            exact Tells.mk hfin.out
          · have hfin := Lib.hid (hat.fin hlt HQ.out (by omega) (by omega) (by omega))
            have h0b : (q == 0) = false := by simp [h0]
            clear h0 h9
            go_wp2
            go_ret3
            exact Tells.mk hfin.out
      · have h9b : (((k : Nat) : Int) == 9) = false := by simp; omega
        have hor' := hor (by omega)
        have h9g : k < 9 := by omega
        clear hor
        by_cases h128 : 128 ≤ q
        · have hst2 := Lib.hid (hat.step hlt HQ.out h9 h128)
          clear h9
          go_wp2
          go_round
          case rel => exact ⟨k + 1, _, rfl, by go_num, by omega, hst2.out⟩
          case measure => simp [intOf]; omega
        · by_cases h0 : q = 0
          · have h0b : (q == 0) = true := by simp [h0]
            by_cases hk0 : k = 0
            · have hfin := Lib.hid (hat.fin hlt HQ.out (by omega) (by omega) (by omega))
              have hkp : ¬ ((0 : Int) < (k : Int)) := by omega
              clear h0 h9 hk0
              go_wp2
              go_ret3
              exact Tells.mk hfin.out
            · have hfin := Lib.hid (hat.zero hlt (HQ.out.trans h0) (by omega))
              have hkp : (0 : Int) < (k : Int) := by omega
              clear h0 h9 hk0
              go_wp2
              go_ret3
              exact Tells.mk hfin.out
          · have hfin := Lib.hid (hat.fin hlt HQ.out (by omega) (by omega) (by omega))
            have h0b : (q == 0) = false := by simp [h0]
            clear h0 h9
            go_wp2
            go_ret3
            exact Tells.mk hfin.out
    · have hfin := Lib.hid (hat.over (by omega))
      go_wp2
      go_ret3
      exact Tells.mk hfin.out

end Go.Proofs.YtffmfgbjlijpeaaDoor

namespace Go.Proofs.YtffmfgbjlijpeaaDoor
open Go.RowKit

set_option maxHeartbeats 400000 in
theorem reffold_any (n : Int) (w : World) (h0 : -9223372036854775808 ≤ n) (h1 : n ≤ 9223372036854775807) :
    Calls Tryd.prog 37 #[.int .i64 n] w fun e w' => e = .returned (.int .u64 (foldI n)) ∧ w = w' := by
  by_cases hn : n < 0
  · have hf : Hid (-(n + 1) * 2 + 1 = foldI n) := by show _ = _; rw [foldI, if_pos hn]; omega
    go_enter Tryd.func37, Tryd.ntmps37
    go_wp2
    go_ret
    exact ret_int hf.out
  · have hf : Hid (n * 2 = foldI n) := by show _ = _; rw [foldI, if_neg hn]; omega
    have hn' : 0 ≤ n := by omega
    clear hn
    go_enter Tryd.func37, Tryd.ntmps37
    go_wp2
    go_ret
    exact ret_int hf.out

set_option maxHeartbeats 400000 in
theorem refunfold_any (x : Int) (w : World) (h0 : 0 ≤ x) (h1 : x ≤ 18446744073709551615) :
    Calls Tryd.prog 55 #[.int .u64 x] w fun e w' => e = .returned (.int .i64 (unfoldI x)) ∧ w = w' := by
  have hand := and_one_u64 x h0 h1
  by_cases ho : x % 2 = 1
  · have hb : (x % 2 == 1) = true := by simp [ho]
    have hf : Hid (-(x / 2) - 1 = unfoldI x) := by show _ = _; rw [unfoldI, if_pos ho]
    clear ho
    go_enter Tryd.func55, Tryd.ntmps55
    go_wp2
    go_ret
    exact ret_int hf.out
  · have hb : (x % 2 == 1) = false := by simp [ho]
    have hf : Hid (x / 2 = unfoldI x) := by show _ = _; rw [unfoldI, if_neg ho]
    clear ho
    go_enter Tryd.func55, Tryd.ntmps55
    go_wp2
    go_ret
    exact ret_int hf.out
end Go.Proofs.YtffmfgbjlijpeaaDoor
