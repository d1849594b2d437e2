/- A contract of the program's varint.Put. · A contract of the program's varint.Get. · Contracts of the program's varint.Fold and Unfold. -/
import Derived.Test.YtiglignfjegilaaDoorBytes
import Derived.Test.YtiglignfjegilaaDoorNums
namespace Go.Proofs.YtiglignfjegilaaDoor
open Go.RowKit

def zeros (n : Nat) : List Value := List.replicate n (.int .u8 0)
theorem zeros_length (n : Nat) : (zeros n).length = n := by simp [zeros]
theorem make_bytes (n : Nat) (h : n ≤ 1099511627776) (W : World) :
    (Instr.makeSlice 30 (.int .i64 (n : Int)) (.int .i64 ((n : Int) + 10))).run Tryd.prog W = .ok (.slice (some ⟨W.heap.size, 0, none⟩) n (n + 10)) (W.alloc (.cells (zeros (n + 10)).toArray 5)) := by
  obtain ⟨i0, hi0, hz0, hz1, hz2⟩ := info_parts byte_info
  have hr := run_make (P := Tryd.prog) W 30 5 i0 _ Tryd.underlying30 hi0 hz0 .i64 .i64 (n : Int) ((n : Int) + 10) (by omega) (by omega) (by rw [hz2]; omega) (by omega)
  have e2 : ((n : Int) + 10).toNat = n + 10 := by omega
  have e3 : (madeCells (Value.int .u8 0).cells (n + 10)) = (zeros (n + 10)).toArray := by
    rw [← Array.toList_inj]
    exact toList_madeCells_one _ _
  rw [e2, hz1, Nat.mul_one, e3] at hr
  simpa using hr
theorem splice_own {w : World} {g base n cap : Nat} {xs : List Int} (h : Hid (w.heap[g]? = some (.cells (splice (zeros cap) 0 (xs.map (Value.int .u8))).toArray 5 (0, 0)))) (hb : base ≤ g) (hn : xs.length = n) (hc : n ≤ cap) (hm : cap ≤ maxLen) :
    Own .u8 5 w base (.slice (some ⟨g, 0, none⟩) n cap) xs := by
  subst hn
  refine Own.of_row h.out hb hc hm ?_ ?_
  · rw [length_splice _ _ _ (by simp [zeros_length]; omega), zeros_length]
  · simp [splice]

set_option maxHeartbeats 400000 in
theorem put_any (A : Option Addr) (xs : List Int) (c : Nat) (x : Int) (w : World) (hl : Lies .u8 w w.heap.size A xs) (hc : xs.length ≤ c) (hb : xs.length ≤ 549755813888) (h0 : 0 ≤ x) (h1 : x ≤ 18446744073709551615) :
    Calls Tryd.prog 32 #[.slice A xs.length c, .int .u64 x] w (NewBytes w (xs ++ putL x)) := by
  obtain ⟨i0, hi0, hz0, hz1, hz2⟩ := info_parts byte_info
  have hmk := make_bytes xs.length (by omega)
  have hst := Lib.hid (PutAt.start xs x h1)
  have hlen := putL_length x
  obtain ⟨zs, hzs⟩ : ∃ zs, zs = xs ++ putL x := ⟨_, rfl⟩
  have hzl : zs.length ≤ xs.length + 10 := by rw [hzs, List.length_append]; omega
  rw [← hzs] at hst ⊢
  clear hzs hlen
  have tok : True := trivial
  go_enter Tryd.func32, Tryd.ntmps32
  go_wp2_with (first
    | (with_reducible refine wpList_copy_splice (o := ⟨some 14, _, _, _, _, _⟩) rfl (.tmp 12) (.tmp 13) 30 30 rfl 5 Tryd.underlying30 byte_size (some ⟨w.heap.size, 0, none⟩) A xs.length (xs.length + 10) xs.length c rfl rfl w.heap.size 0 (zeros (xs.length + 10)) 5 ?h1 (xs.map (Value.int .u8)) ?h2 ?h3 ?h4 (oneCell_ints _ _) w.heap.size w ?h5 (Nat.le_refl _) ?h6))
  case h1 => exact heap_alloc_new w _
  case h2 => simp
  case h3 =>
    intro hp

    obtain ⟨b, off, he, hlt, hcell⟩ := hl (by rintro rfl; simp at hp)
    refine ⟨_, he, fun j u hu => ?_⟩
    have hj : j < xs.length := by
      rcases Nat.lt_or_ge j xs.length with h | h
      · exact h
      · rw [List.getElem?_eq_none (by simpa using h)] at hu; cases hu
    rw [add_lit, World.cell?_alloc_lt _ _ _ hlt, hcell j hj]
    simpa [hj] using hu
  case h4 => simp [zeros_length]
  case h5 => exact (Below.refl _ _).alloc (Nat.le_refl _) _
  case h6 =>
    intro w1 hrow hbel
    have hown := splice_own hrow (Nat.le_refl _) rfl (by omega) (by simp only [maxLen]; omega)
    clear hrow hmk hl
    go_wp2_with fail
    go_loopw [1, 5] (fun xv v wr => ∃ (y : Int) (pre : List Int), xv = .int .u64 y ∧ 0 ≤ y ∧ y ≤ 18446744073709551615 ∧ PutAt zs pre y ∧ Own .u8 5 wr w.heap.size v pre ∧ Below w.heap.size w wr)
      (fun xv _ _ => (intOf xv).toNat)
    case atStart => exact ⟨x, xs, rfl, h0, h1, hst.out, hown, hbel⟩
    case round =>
      obtain ⟨y, pre, rfl, hy0, hy1, hat, hown, hbel⟩ := hrel
      have hpl := hat.len
      by_cases hbig : 128 ≤ y
      · have hbs := hbel.size
        go_wp2_with (at_builtin; refine wpList_append_int1 rfl (.tmp 17) (.tmp 22) 30 rfl w.heap.size 5 .u8 i0 1 Tryd.underlying30 hi0 hz0 hz1 hz2 (by decide) _ pre rfl wr (y % 128 + 128) rfl hown rfl (by omega) hbs ?_; intro v' w2 hown2 hbel2)
        have hst2 := hat.step hbig
        go_roundw
        case rel => exact ⟨y / 128, pre ++ [y % 128 + 128], rfl, by omega, by omega, hst2, hown2, hbel.trans hbel2⟩
        case measure => simp [intOf]; omega
      · have hbs := hbel.size
        have hsm : y < 128 := by omega
        go_wp2_with (at_builtin; refine wpList_append_int1 rfl (.tmp 26) (.tmp 29) 30 rfl w.heap.size 5 .u8 i0 1 Tryd.underlying30 hi0 hz0 hz1 hz2 (by decide) _ pre rfl wr y rfl hown rfl (by omega) hbs ?_; intro v' w2 hown2 hbel2)
        go_ret
        exact ⟨v', rfl, by rw [← hat.done hsm]; exact hown2, hbel.trans hbel2⟩

theorem put_nil (x : Int) (w : World) (h0 : 0 ≤ x) (h1 : x ≤ 18446744073709551615) : Calls Tryd.prog 32 #[.slice none 0 0, .int .u64 x] w (NewBytes w (putL x)) :=
  put_any none [] 0 x w Lies.nil (Nat.le_refl _) (by simp) h0 h1

end Go.Proofs.YtiglignfjegilaaDoor

namespace Go.Proofs.YtiglignfjegilaaDoor
open Go.RowKit

set_option maxHeartbeats 800000 in
theorem get_any (A : Option Addr) (xs : List Int) (c : Nat) (w : World) (hl : Lies .u8 w w.heap.size A xs) (hby : IsBytes xs) :
    Calls Tryd.prog 36 #[.slice A xs.length c] w (Tells (getR xs) w) := by
  have hst := Lib.hid (GetAt.start xs)
  obtain ⟨r, hr⟩ : ∃ r, r = getR xs := ⟨_, rfl⟩
  rw [← hr] at hst ⊢
  clear hr
  go_enter Tryd.func36, Tryd.ntmps36
  go_wp2_with fail
  go_loop [5, 6, 7, 10] (fun xv _ _ iv => ∃ (k : Nat) (acc : Int), xv = .int .u64 acc ∧ iv = .int .i64 k ∧ k ≤ xs.length ∧ GetAt r xs k acc)
    (fun _ _ _ iv => xs.length - (intOf iv).toNat)
  case atStart => exact ⟨0, 0, rfl, rfl, Nat.zero_le _, hst.out⟩
  case round =>
    obtain ⟨k, acc, rfl, rfl, hk, hat⟩ := hrel
    obtain ⟨hk9, ha0, ha1⟩ := hat.bounds
    by_cases hlt : k < xs.length
    · obtain ⟨b, off, rfl, hbl, hcell⟩ := hl.at_ hlt
      obtain ⟨hc0, hc1⟩ := hby.at_ hlt
      obtain ⟨q, hq⟩ : ∃ q, xs[k] = q := ⟨_, rfl⟩
      rw [hq] at hcell hc0 hc1
      have HQ := Lib.hid hq
      clear hq
      have hor := fun h2 => hat.joined hc0 h2
      by_cases h9 : k = 9
      · have h9b : (((k : Nat) : Int) == 9) = true := by simp; omega
        have h9g : 9 ≤ k := by omega
        by_cases h1 : 1 < q
        · have hfin := Lib.hid (hat.long hlt HQ.out h9 h1)
          clear hor h9
          go_wp2
          go_ret3
          exact Tells.mk hfin.out
        · have hor' := hor (by omega)
          clear hor
          by_cases h0 : q = 0
          · have hfin := Lib.hid (hat.zero hlt (HQ.out.trans h0) (by omega))
            have h0b : (q == 0) = true := by simp [h0]
            have hkp : (0 : Int) < (k : Int) := by omega
            clear h0 h9
            go_wp2
            go_ret3
            exact Tells.mk hfin.out
          · have hfin := Lib.hid (hat.fin hlt HQ.out (by omega) (by omega) (by omega))
            have h0b : (q == 0) = false := by simp [h0]
            clear h0 h9
            go_wp2
            go_ret3
            exact Tells.mk hfin.out
      · have h9b : (((k : Nat) : Int) == 9) = false := by simp; omega
        have hor' := hor (by omega)
        have h9g : k < 9 := by omega
        clear hor
        by_cases h128 : 128 ≤ q
        · have hst2 := Lib.hid (hat.step hlt HQ.out h9 h128)
          clear h9
          go_wp2
          go_round
          case rel => exact ⟨k + 1, _, rfl, by go_num, by omega, hst2.out⟩
          case measure => simp [intOf]; omega
        · by_cases h0 : q = 0
          · have h0b : (q == 0) = true := by simp [h0]
            by_cases hk0 : k = 0
            · have hfin := Lib.hid (hat.fin hlt HQ.out (by omega) (by omega) (by omega))
              have hkp : ¬ ((0 : Int) < (k : Int)) := by omega
              clear h0 h9 hk0
              go_wp2
              go_ret3
              exact Tells.mk hfin.out
            · have hfin := Lib.hid (hat.zero hlt (HQ.out.trans h0) (by omega))
              have hkp : (0 : Int) < (k : Int) := by omega
              clear h0 h9 hk0
              go_wp2
              go_ret3
              exact Tells.mk hfin.out
          · have hfin := Lib.hid (hat.fin hlt HQ.out (by omega) (by omega) (by omega))
            have h0b : (q == 0) = false := by simp [h0]
            clear h0 h9
            go_wp2
            go_ret3
            exact Tells.mk hfin.out
    · have hfin := Lib.hid (hat.over (by omega))
      go_wp2
      go_ret3
      exact Tells.mk hfin.out

end Go.Proofs.YtiglignfjegilaaDoor

namespace Go.Proofs.YtiglignfjegilaaDoor
open Go.RowKit

set_option maxHeartbeats 400000 in
theorem fold_any (n : Int) (w : World) (h0 : -9223372036854775808 ≤ n) (h1 : n ≤ 9223372036854775807) :
    Calls Tryd.prog 33 #[.int .i64 n] w fun e w' => e = .returned (.int .u64 (foldI n)) ∧ w = w' := by
  by_cases hn : n < 0
  · have hx := xor_max (IntKind.u64.wrap (2 * IntKind.u64.wrap n)) (by rw [IntKind.wrap_u64]; omega) (by rw [IntKind.wrap_u64]; omega)
    have hf : Hid (18446744073709551615 - IntKind.u64.wrap (2 * IntKind.u64.wrap n) = foldI n) := by
      show _ = _
      rw [IntKind.wrap_u64, IntKind.wrap_u64, foldI, if_pos hn]; omega
    have HX := Lib.hid hx
    clear hx
    go_enter Tryd.func33, Tryd.ntmps33
    go_wp2
    go_ret
    exact ret_int (HX.out.trans hf.out)
  · have hf : Hid (2 * n = foldI n) := by show _ = _; rw [foldI, if_neg hn]
    have hn' : 0 ≤ n := by omega
    clear hn
    go_enter Tryd.func33, Tryd.ntmps33
    go_wp2
    go_ret
    exact ret_int hf.out

set_option maxHeartbeats 400000 in
theorem unfold_any (x : Int) (w : World) (h0 : 0 ≤ x) (h1 : x ≤ 18446744073709551615) :
    Calls Tryd.prog 37 #[.int .u64 x] w fun e w' => e = .returned (.int .i64 (unfoldI x)) ∧ w = w' := by
  by_cases ho : x % 2 = 1
  · have hb : (x % 2 == 1) = true := by simp [ho]
    have hf : Hid (-1 - x / 2 = unfoldI x) := by show _ = _; rw [unfoldI, if_pos ho]; omega
    clear ho
    go_enter Tryd.func37, Tryd.ntmps37
    go_wp2
    go_ret
    exact ret_int hf.out
  · have hb : (x % 2 == 1) = false := by simp [ho]
    have hf : Hid (x / 2 = unfoldI x) := by show _ = _; rw [unfoldI, if_neg ho]
    clear ho
    go_enter Tryd.func37, Tryd.ntmps37
    go_wp2
    go_ret
    exact ret_int hf.out

end Go.Proofs.YtiglignfjegilaaDoor
