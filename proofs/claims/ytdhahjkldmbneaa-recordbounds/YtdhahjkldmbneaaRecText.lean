/- A contract of the statements' own 'text': so many bytes. -/
import Derived.Test.YtdhahjkldmbneaaRecWords
namespace Go.Proofs.Ytdhahjkldmbneaa
open Go.RowKit

def nils (n : Nat) : List Value := List.replicate n (.int .u8 0)
theorem make_nils (n : Nat) (h : n ≤ 1099511627776) (W : World) :
    (Instr.makeSlice 22 (.int .i64 (n : Int)) (.int .i64 (n : Int))).run Try.prog W = .ok (.slice (some ⟨W.heap.size, 0, none⟩) n n) (W.alloc (.cells (nils n).toArray 5)) := by
  obtain ⟨i0, hi0, hz0, hz1, hz2⟩ := info_parts byte_info
  have hr := run_make (P := Try.prog) W 22 5 i0 _ Try.underlying22 hi0 hz0 .i64 .i64 (n : Int) (n : Int) (by omega) (by omega) (by rw [hz2]; omega) (by omega)
  have e3 : (madeCells (Value.int .u8 0).cells n) = (nils n).toArray := by
    rw [← Array.toList_inj]
    exact toList_madeCells_one _ _
  rw [Int.toNat_natCast, hz1, Nat.mul_one, e3] at hr
  simpa using hr
theorem nils_own (n : Nat) (W : World) (h : n ≤ maxLen) : Own .u8 5 (W.alloc (.cells (nils n).toArray 5)) W.heap.size (.slice (some ⟨W.heap.size, 0, none⟩) n n) (List.replicate n 0) := by
  have := Own.of_row (k := .u8) (e := 5) (w := W.alloc (.cells (nils n).toArray 5)) (base := W.heap.size) (g := W.heap.size) (cap := n) (cur := nils n) (xs := List.replicate n 0) (heap_alloc_new W _) (Nat.le_refl _) (by simp) h (by simp [nils]) (by simp [nils])
  simpa using this

set_option maxHeartbeats 800000 in
theorem text_any (n : Nat) (w : World) (hn : n ≤ 100000) : Calls Try.prog 17 #[.int .i64 (n : Int)] w (fun e w' => (∃ s : ByteArray, e = .returned (.string s) ∧ s.size = n) ∧ Below w.heap.size w w') := by
  have hmk := make_nils n (by omega)
  have hown0 := nils_own n w (by unfold maxLen; omega)
  have hb0 : Below w.heap.size w (w.alloc (.cells (nils n).toArray 5)) := (Below.refl _ _).alloc (Nat.le_refl _) _
  obtain ⟨W0, hW0⟩ : ∃ W0, w.alloc (.cells (nils n).toArray 5) = W0 := ⟨_, rfl⟩
  have hmk0 := hmk w
  rw [hW0] at hown0 hb0 hmk0
  clear hmk hW0
  go_enter Try.func17, Try.ntmps17
  go_wp2_with fail
  go_loopw [4] (fun iv wr => ∃ (i : Nat) (ys : List Int), iv = .int .i64 (i : Int) ∧ i ≤ n ∧ ys.length = n ∧ Own .u8 5 wr w.heap.size (.slice (some ⟨w.heap.size, 0, none⟩) n n) ys ∧ Below w.heap.size w wr) (fun iv _ => n - (intOf iv).toNat)
  case atStart => exact ⟨0, List.replicate n 0, rfl, Nat.zero_le _, by simp, hown0, hb0⟩
  case round =>
    obtain ⟨i, ys, rfl, hi, hyl, hown, hbel⟩ := hrel
    clear hown0 hb0 hmk0
    by_cases hlt : (i : Int) < (n : Int)
    · have hltn : i < n := by omega
      subst hyl
      go_wp2_with ((with_reducible refine wpList_store_own (o := ⟨none, .store 5 (.tmp 14) (.const (.int .u8 120)), _, _, _, _⟩) rfl (.tmp 14) (.const (.int .u8 120)) 5 rfl byte_size w.heap.size 5 .u8 w.heap.size ys.length i 120 ys rfl rfl hown (Nat.le_refl _) hltn ?_); (intro w2 hown2 hb2))
      go_roundw
      case rel => exact ⟨i + 1, ys.set i 120, by go_num, by omega, by simp, hown2, hbel.trans hb2⟩
      case measure => simp [intOf]; omega
    · have hcv := conv_bytes (P := Try.prog) 22 9 5 Try.underlying22 Try.underlying5 Try.underlying9 hown.lies n
      obtain ⟨t, ht⟩ : ∃ t, textOf ys = t := ⟨_, rfl⟩
      have hsz : t.size = n := by rw [← ht, textOf_size, hyl]
      rw [ht, hyl] at hcv
      have HSZ := Lib.hid hsz
      clear hsz ht
      go_wp2
      go_ret
      exact ⟨⟨t, rfl, HSZ.out⟩, hbel⟩
end Go.Proofs.Ytdhahjkldmbneaa
