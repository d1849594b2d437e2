/- A contract of the document's own Get. -/
import Derived.Test.YtaoflfdpagpgaaaDoorBytes
namespace Go.Proofs.YtaoflfdpagpgaaaDoor
open Go.RowKit

set_option maxHeartbeats 800000 in
theorem refget_any (A : Option Addr) (xs : List Int) (c : Nat) (w : World) (hl : Lies .u8 w w.heap.size A xs) (hby : IsBytes xs) :
    Calls Tryd.prog 39 #[.slice A xs.length c] w (Tells (getR xs) w) := by
  have hst := Lib.hid (GetAt.start xs)
  obtain ⟨r, hr⟩ : ∃ r, r = getR xs := ⟨_, rfl⟩
  rw [← hr] at hst ⊢
  clear hr
  go_enter Tryd.func39, Tryd.ntmps39
  go_wp2_with fail
  go_loop [5, 6, 7] (fun xv iv _ => ∃ (k : Nat) (acc : Int), xv = .int .u64 acc ∧ iv = .int .i64 k ∧ k ≤ xs.length ∧ GetAt r xs k acc)
    (fun _ iv _ => xs.length - (intOf iv).toNat)
  case atStart => exact ⟨0, 0, rfl, rfl, Nat.zero_le _, hst.out⟩
  case round =>
    obtain ⟨k, acc, rfl, rfl, hk, hat⟩ := hrel
    obtain ⟨hk9, ha0, ha1⟩ := hat.bounds
    by_cases hlt : k < xs.length
    · obtain ⟨b, off, rfl, hbl, hcell⟩ := hl.at_ hlt
      obtain ⟨hc0, hc1⟩ := hby.at_ hlt
      obtain ⟨q, hq⟩ : ∃ q, xs[k] = q := ⟨_, rfl⟩
      rw [hq] at hcell hc0 hc1
      have HQ := Lib.hid hq
      clear hq
      have hor := fun h2 => hat.joined hc0 h2
      have h127 := u8_and127 q hc0 hc1
      by_cases h9 : k = 9
      · have h9b : (((k : Nat) : Int) == 9) = true := by simp; omega
        have h9g : 9 ≤ k := by omega
        by_cases h1 : 1 < q
        · have hfin := Lib.hid (hat.long hlt HQ.out h9 h1)
          clear hor h9
          go_wp2
          go_ret3
          exact Tells.mk hfin.out
        · have hor' := hor (by omega)
          clear hor
          by_cases h0 : q = 0
          · have hfin := Lib.hid (hat.zero hlt (HQ.out.trans h0) (by omega))
            have h0b : (q == 0) = true := by simp [h0]
            have hkp : (0 : Int) < (k : Int) := by omega
            clear h0 h9
            go_wp2
            go_ret3
            exact Tells.mk hfin.out
          · have hfin := Lib.hid (hat.fin hlt HQ.out (by omega) (by omega) (by omega))
            have h0b : (q == 0) = false := by simp [h0]
            clear h0 h9
            go_wp2
            go_ret3
            exact Tells.mk hfin.out
      · have h9b : (((k : Nat) : Int) == 9) = false := by simp; omega
        have hor' := hor (by omega)
        have h9g : k < 9 := by omega
        clear hor
        by_cases h128 : 128 ≤ q
        · have hst2 := Lib.hid (hat.step hlt HQ.out h9 h128)
          clear h9
          go_wp2
          go_round
          case rel => exact ⟨k + 1, _, rfl, by go_num, by omega, hst2.out⟩
          case measure => simp [intOf]; omega
        · by_cases h0 : q = 0
          · have h0b : (q == 0) = true := by simp [h0]
            by_cases hk0 : k = 0
            · have hfin := Lib.hid (hat.fin hlt HQ.out (by omega) (by omega) (by omega))
              have hkp : ¬ ((0 : Int) < (k : Int)) := by omega
              clear h0 h9 hk0
              go_wp2
              go_ret3
              exact Tells.mk hfin.out
            · have hfin := Lib.hid (hat.zero hlt (HQ.out.trans h0) (by omega))
              have hkp : (0 : Int) < (k : Int) := by omega
              clear h0 h9 hk0
              go_wp2
              go_ret3
              exact Tells.mk hfin.out
          · have hfin := Lib.hid (hat.fin hlt HQ.out (by omega) (by omega) (by omega))
            have h0b : (q == 0) = false := by simp [h0]
            clear h0 h9
            go_wp2
            go_ret3
            exact Tells.mk hfin.out
    · have hfin := Lib.hid (hat.over (by omega))
      go_wp2
      go_ret3
      exact Tells.mk hfin.out

end Go.Proofs.YtaoflfdpagpgaaaDoor
