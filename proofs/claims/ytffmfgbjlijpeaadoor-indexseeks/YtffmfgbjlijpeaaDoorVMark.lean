/- Contracts of the program's own Seek and SeekTime: the place that marks tell. -/
import Derived.Test.YtffmfgbjlijpeaaDoorMarks
import Derived.Test.YtffmfgbjlijpeaaDoorProg
namespace Go.Proofs.YtffmfgbjlijpeaaDoor
open Go.RowKit

theorem vseek1_any (w : World) (n : Int) (B : Nat) (mo mt mp : Int) (hn : w.cell? ⟨B, 0, none⟩ = some (.int .i64 n)) :
    Calls Tryd.prog 31 #[.agg #[.int .i64 mo, .int .i64 mt, .int .i64 mp], .pointer (some ⟨B, 0, none⟩)] w (fun e w' => e = .returned (.bool (decide (mo ≤ n))) ∧ Below w.heap.size w w') := by
  have hB := cell_block_lt hn
  have HB := Lib.hid ((Below.refl w.heap.size w).alloc (Nat.le_refl _) (.cells #[.int .i64 mo, .int .i64 mt, .int .i64 mp] 46))
  go_enter Tryd.func31, Tryd.ntmps31
  go_wp2
  go_ret
  exact ⟨rfl, HB.out⟩
set_option maxHeartbeats 800000 in
theorem vseeklast_any (w : World) (S : Nat → Prop) (A : Option Addr) (ms : List MarkM) (cap : Nat) (h : RowsLie markRep w S A ms cap) (hS : ∀ b, S b → b < w.heap.size) (n : Int) (B : Nat) (hn : w.cell? ⟨B, 0, none⟩ = some (.int .i64 n)) :
    Calls Tryd.prog 30 #[.slice A ms.length cap, .func (.func 31) #[] #[.pointer (some ⟨B, 0, none⟩)]] w (fun e w' => e = .returned (.int .i64 (seekM ms n)) ∧ Below w.heap.size w w') := by
  have hB := cell_block_lt hn
  have HA := Lib.hid h
  have HS := Lib.hid hS
  have hcl := h.2.1
  have hcm := h.2.2
  unfold maxLen at hcm
  clear h hS
  go_enter Tryd.func30, Tryd.ntmps30
  go_wp2_with fail
  go_loopw [5] (fun iv wr => ∃ (i : Nat) (x : Int), iv = .int .i64 x ∧ x = (i : Int) - 1 ∧ i ≤ ms.length ∧ seekM ms n = seekM (ms.take i) n ∧ Below w.heap.size w wr) (fun iv _ => (intOf iv + 1).toNat)
  case atStart => exact ⟨ms.length, _, rfl, rfl, Nat.le_refl _, by rw [List.take_length], Below.refl _ _⟩
  case round =>
    obtain ⟨i, x, rfl, hx, hi, hm, hbel⟩ := hrel
    have HM := Lib.hid hm
    have HBE := Lib.hid hbel
    have hcn := (hbel.cell (p := ⟨B, 0, none⟩) hB).trans hn
    cases i with
    | zero =>
      obtain rfl : x = -1 := by omega
      have HZ : Hid (seekM ms n = 0) := Lib.hid (by rw [HM.out, List.take_zero]; rfl)
      clear hm hbel hx
      go_wp2
      go_ret
      exact ⟨by rw [HZ.out]; rfl, HBE.out⟩
    | succ k =>
      obtain rfl : x = (k : Int) := by omega
      have hlt : k < ms.length := hi
      obtain ⟨b, off, rfl, hb0, _, g0, g1, g2⟩ := MarksLie.at_ (HA.out.below hbel HS.out) hlt
      have HY := Lib.hid (fun hp => lastPos_yes (p := fun m => decide (m.off ≤ n)) hlt hp)
      have HN := Lib.hid (fun hp => lastPos_no (p := fun m => decide (m.off ≤ n)) hlt hp)
      obtain ⟨m, hmk⟩ : ∃ m, ms[k] = m := ⟨_, rfl⟩
      rw [hmk] at g0 g1 g2 HY HN
      obtain ⟨mo, mt, mp⟩ := m
      dsimp only at g0 g1 g2 HY HN
      have HC := Lib.hid (vseek1_any wr n B mo mt mp hcn)
      clear hmk hm hbel hx hi
      by_cases hp : mo ≤ n
      · have hq : decide (mo ≤ n) = true := decide_eq_true hp
        rw [hq] at HC
        have HE : Hid (seekM ms n = mp) := Lib.hid (HM.out.trans (HY.out hq))
        clear HY HN hp
        go_wp2_with (go_at_call 31; refine HC.out.mono ?_; rintro e w2 ⟨rfl, hb2⟩; have HB2 := Lib.hid (HBE.out.trans (hb2.mono HBE.out.size)); have k2 := (hb2.cell (p := ⟨b, off + k * 3 + 2, none⟩) hb0).trans g2; clear hb2)
        go_ret
        exact ⟨by rw [HE.out]; rfl, HB2.out⟩
      · have hq : decide (mo ≤ n) = false := decide_eq_false hp
        rw [hq] at HC
        have HE : Hid (seekM ms n = seekM (ms.take k) n) := Lib.hid (HM.out.trans (HN.out (by rw [hq]; decide)))
        clear HY HN hp
        go_wp2_with (go_at_call 31; refine HC.out.mono ?_; rintro e w2 ⟨rfl, hb2⟩; have HB2 := Lib.hid (HBE.out.trans (hb2.mono HBE.out.size)); clear hb2)
        go_roundw
        case rel => exact ⟨k, (k : Int) - 1, by first | rfl | (simp; done) | go_num, rfl, by omega, HE.out, HB2.out⟩
        case measure => simp [intOf]
theorem vseek_any (w : World) (S : Nat → Prop) (A : Option Addr) (ms : List MarkM) (cap : Nat) (h : RowsLie markRep w S A ms cap) (hS : ∀ b, S b → b < w.heap.size) (n : Int) :
    Calls Tryd.prog 16 #[.slice A ms.length cap, .int .i64 n] w (fun e w' => e = .returned (.int .i64 (seekM ms n)) ∧ Below w.heap.size w w') := by
  have hmf : ∀ (fn : Fn) (first cap : Array Value) (w : World), (Instr.makeFunc fn first cap).run Tryd.prog w = .ok (.func fn first cap) w := fun _ _ _ _ => rfl
  have HB := Lib.hid ((Below.refl w.heap.size w).alloc (Nat.le_refl _) (.cells #[.int .i64 n] 3))
  have hn : (w.alloc (.cells #[.int .i64 n] 3)).cell? ⟨w.heap.size, 0, none⟩ = some (.int .i64 n) := by simp [World.cell?_alloc_at]
  have HC := Lib.hid (vseeklast_any (w.alloc (.cells #[.int .i64 n] 3)) S A ms cap (h.below HB.out hS) (fun b hb => by have := hS b hb; simp; omega) n w.heap.size hn)
  have hcl := h.2.1
  have hcm := h.2.2
  unfold maxLen at hcm
  clear h hS
  go_enter Tryd.func16, Tryd.ntmps16
  go_wp2_with fail
  refine HC.out.mono ?_
  rintro e w2 ⟨rfl, hb2⟩
  have HB2 := Lib.hid (HB.out.trans (hb2.mono HB.out.size))
  go_wp2
  go_ret
  exact ⟨rfl, HB2.out⟩
theorem vseektime1_any (w : World) (n : Int) (B : Nat) (mo mt mp : Int) (hn : w.cell? ⟨B, 0, none⟩ = some (.int .i64 n)) :
    Calls Tryd.prog 32 #[.agg #[.int .i64 mo, .int .i64 mt, .int .i64 mp], .pointer (some ⟨B, 0, none⟩)] w (fun e w' => e = .returned (.bool (decide (mt < n))) ∧ Below w.heap.size w w') := by
  have hB := cell_block_lt hn
  have HB := Lib.hid ((Below.refl w.heap.size w).alloc (Nat.le_refl _) (.cells #[.int .i64 mo, .int .i64 mt, .int .i64 mp] 46))
  go_enter Tryd.func32, Tryd.ntmps32
  go_wp2
  go_ret
  exact ⟨rfl, HB.out⟩
set_option maxHeartbeats 800000 in
theorem vseektimelast_any (w : World) (S : Nat → Prop) (A : Option Addr) (ms : List MarkM) (cap : Nat) (h : RowsLie markRep w S A ms cap) (hS : ∀ b, S b → b < w.heap.size) (n : Int) (B : Nat) (hn : w.cell? ⟨B, 0, none⟩ = some (.int .i64 n)) :
    Calls Tryd.prog 30 #[.slice A ms.length cap, .func (.func 32) #[] #[.pointer (some ⟨B, 0, none⟩)]] w (fun e w' => e = .returned (.int .i64 (seekTM ms n)) ∧ Below w.heap.size w w') := by
  have hB := cell_block_lt hn
  have HA := Lib.hid h
  have HS := Lib.hid hS
  have hcl := h.2.1
  have hcm := h.2.2
  unfold maxLen at hcm
  clear h hS
  go_enter Tryd.func30, Tryd.ntmps30
  go_wp2_with fail
  go_loopw [5] (fun iv wr => ∃ (i : Nat) (x : Int), iv = .int .i64 x ∧ x = (i : Int) - 1 ∧ i ≤ ms.length ∧ seekTM ms n = seekTM (ms.take i) n ∧ Below w.heap.size w wr) (fun iv _ => (intOf iv + 1).toNat)
  case atStart => exact ⟨ms.length, _, rfl, rfl, Nat.le_refl _, by rw [List.take_length], Below.refl _ _⟩
  case round =>
    obtain ⟨i, x, rfl, hx, hi, hm, hbel⟩ := hrel
    have HM := Lib.hid hm
    have HBE := Lib.hid hbel
    have hcn := (hbel.cell (p := ⟨B, 0, none⟩) hB).trans hn
    cases i with
    | zero =>
      obtain rfl : x = -1 := by omega
      have HZ : Hid (seekTM ms n = 0) := Lib.hid (by rw [HM.out, List.take_zero]; rfl)
      clear hm hbel hx
      go_wp2
      go_ret
      exact ⟨by rw [HZ.out]; rfl, HBE.out⟩
    | succ k =>
      obtain rfl : x = (k : Int) := by omega
      have hlt : k < ms.length := hi
      obtain ⟨b, off, rfl, hb0, _, g0, g1, g2⟩ := MarksLie.at_ (HA.out.below hbel HS.out) hlt
      have HY := Lib.hid (fun hp => lastPos_yes (p := fun m => decide (m.time < n)) hlt hp)
      have HN := Lib.hid (fun hp => lastPos_no (p := fun m => decide (m.time < n)) hlt hp)
      obtain ⟨m, hmk⟩ : ∃ m, ms[k] = m := ⟨_, rfl⟩
      rw [hmk] at g0 g1 g2 HY HN
      obtain ⟨mo, mt, mp⟩ := m
      dsimp only at g0 g1 g2 HY HN
      have HC := Lib.hid (vseektime1_any wr n B mo mt mp hcn)
      clear hmk hm hbel hx hi
      by_cases hp : mt < n
      · have hq : decide (mt < n) = true := decide_eq_true hp
        rw [hq] at HC
        have HE : Hid (seekTM ms n = mp) := Lib.hid (HM.out.trans (HY.out hq))
        clear HY HN hp
        go_wp2_with (go_at_call 32; refine HC.out.mono ?_; rintro e w2 ⟨rfl, hb2⟩; have HB2 := Lib.hid (HBE.out.trans (hb2.mono HBE.out.size)); have k2 := (hb2.cell (p := ⟨b, off + k * 3 + 2, none⟩) hb0).trans g2; clear hb2)
        go_ret
        exact ⟨by rw [HE.out]; rfl, HB2.out⟩
      · have hq : decide (mt < n) = false := decide_eq_false hp
        rw [hq] at HC
        have HE : Hid (seekTM ms n = seekTM (ms.take k) n) := Lib.hid (HM.out.trans (HN.out (by rw [hq]; decide)))
        clear HY HN hp
        go_wp2_with (go_at_call 32; refine HC.out.mono ?_; rintro e w2 ⟨rfl, hb2⟩; have HB2 := Lib.hid (HBE.out.trans (hb2.mono HBE.out.size)); clear hb2)
        go_roundw
        case rel => exact ⟨k, (k : Int) - 1, by first | rfl | (simp; done) | go_num, rfl, by omega, HE.out, HB2.out⟩
        case measure => simp [intOf]
theorem vseektime_any (w : World) (S : Nat → Prop) (A : Option Addr) (ms : List MarkM) (cap : Nat) (h : RowsLie markRep w S A ms cap) (hS : ∀ b, S b → b < w.heap.size) (n : Int) :
    Calls Tryd.prog 18 #[.slice A ms.length cap, .int .i64 n] w (fun e w' => e = .returned (.int .i64 (seekTM ms n)) ∧ Below w.heap.size w w') := by
  have hmf : ∀ (fn : Fn) (first cap : Array Value) (w : World), (Instr.makeFunc fn first cap).run Tryd.prog w = .ok (.func fn first cap) w := fun _ _ _ _ => rfl
  have HB := Lib.hid ((Below.refl w.heap.size w).alloc (Nat.le_refl _) (.cells #[.int .i64 n] 3))
  have hn : (w.alloc (.cells #[.int .i64 n] 3)).cell? ⟨w.heap.size, 0, none⟩ = some (.int .i64 n) := by simp [World.cell?_alloc_at]
  have HC := Lib.hid (vseektimelast_any (w.alloc (.cells #[.int .i64 n] 3)) S A ms cap (h.below HB.out hS) (fun b hb => by have := hS b hb; simp; omega) n w.heap.size hn)
  have hcl := h.2.1
  have hcm := h.2.2
  unfold maxLen at hcm
  clear h hS
  go_enter Tryd.func18, Tryd.ntmps18
  go_wp2_with fail
  refine HC.out.mono ?_
  rintro e w2 ⟨rfl, hb2⟩
  have HB2 := Lib.hid (HB.out.trans (hb2.mono HB.out.size))
  go_wp2
  go_ret
  exact ⟨rfl, HB2.out⟩
end Go.Proofs.YtffmfgbjlijpeaaDoor
