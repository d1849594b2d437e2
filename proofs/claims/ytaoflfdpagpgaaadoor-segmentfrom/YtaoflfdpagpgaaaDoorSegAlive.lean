/- The example of the document holds: a contract of the statements' own 'alive'; and their 'num' and 'Big'. -/
import Derived.Test.YtaoflfdpagpgaaaDoorVSegBytes
import Derived.Test.YtaoflfdpagpgaaaDoorVSegScan
import Derived.Test.YtaoflfdpagpgaaaDoorVSegFrom
namespace Go.Proofs.YtaoflfdpagpgaaaDoor
open Go.RowKit

theorem num_any (k : Int) (w : World) : Calls Tryd.prog 18 #[.int .i64 k] w fun e w' => e = .returned (.int .i64 k) ∧ w' = w := by
  go_enter Tryd.func18, Tryd.ntmps18
  go_wp2
  go_ret
  exact ⟨rfl, rfl⟩
def twoR : List Rec := [⟨0, 0, ⟨#[97]⟩, ⟨#[]⟩, false⟩, ⟨1, 0, ⟨#[98]⟩, ⟨#[]⟩, false⟩]
theorem two_right : ∀ r ∈ twoR, r.right := by
  intro r hr
  simp only [twoR, List.mem_cons, List.not_mem_nil, or_false] at hr
  rcases hr with rfl | rfl <;> decide
theorem two_up : Up none twoR := ⟨rfl, by decide, trivial⟩
abbrev twoBox : Obj := .cells #[.int .i64 0, .int .i64 0, .string ⟨#[97]⟩, .string ⟨#[]⟩, .bool false, .int .i64 1, .int .i64 0, .string ⟨#[98]⟩, .string ⟨#[]⟩, .bool false] 38
theorem two_lie (w : World) : RecsLie (w.alloc twoBox) (some ⟨w.heap.size, 0, none⟩) twoR 2 := by
  have hb : (w.alloc twoBox).heap[w.heap.size]? = some twoBox := by
    show (w.heap.push _)[w.heap.size]? = _
    simp
  refine ⟨fun _ => ⟨w.heap.size, 0, rfl, by simp, fun i hi => ?_⟩, by decide, by simp [maxLen], fun r hr => (two_right r hr).wf⟩
  have : i = 0 ∨ i = 1 := by simp [twoR] at hi; omega
  rcases this with rfl | rfl <;> (refine ⟨?_, ?_, ?_, ?_, ?_⟩ <;> (unfold World.cell?; rw [hb]; rfl))
theorem two_bytes : ∃ n, (segL twoR).length = n ∧ 0 < n ∧ n ≤ 4800 := by
  refine ⟨_, rfl, ?_, segL_length twoR⟩
  unfold segL
  rw [goods_all two_right]
  have := (frame_rec_length ⟨0, 0, ⟨#[97]⟩, ⟨#[]⟩, false⟩ (two_right _ (by simp [twoR]))).1
  show 0 < (segF (_ :: _)).length
  rw [segF_cons, List.length_append]
  omega
set_option maxHeartbeats 1600000 in
theorem alive_any (w : World) (hh : Half w) : Calls Tryd.prog 7 #[] w (Yes w) := by
  have h0 := hh.pos
  obtain ⟨n, hn, hn0, hn1⟩ := two_bytes
  have H1 := Lib.hid (vsegbytes_any (w.alloc twoBox) (hh.below ((Below.refl _ _).alloc (Nat.le_refl _) _) h0) twoR (some ⟨w.heap.size, 0, none⟩) 2 (two_lie w) (by simp [twoR]))
  have hrng : IsBytes (segL twoR) := by unfold segL; exact segF_range _ fun r hr => goods_right hr
  have hseg : SegIs none (segL twoR) twoR n := by
    have := seg_whole twoR two_right two_up
    unfold segL at hn ⊢
    rw [goods_all two_right] at hn ⊢
    rw [hn] at this
    exact this
  have H2 : Hid (∀ (w1 : World) (v : Value), Below (w.alloc twoBox).heap.size (w.alloc twoBox) w1 → Own .u8 5 w1 (w.alloc twoBox).heap.size v (segL twoR) → ∃ B c, v = .slice B n c ∧ Calls Tryd.prog 14 #[.slice B n c] w1 fun e w' => ∃ C d, e = .returned (.tuple #[.slice C 2 d, .int .i64 (n : Int)]) ∧ (Calls Tryd.prog 11 #[.slice (some ⟨w.heap.size, 0, none⟩) 2 2, .slice C 2 d] w' fun e w'' => e = .returned (.bool true) ∧ Below w.heap.size w w'')) := Lib.hid fun w1 v hb ho => by
    obtain ⟨B, c, rfl, q1, q2, q3⟩ := ho.parts
    have hb0 : Below w.heap.size w w1 := ((Below.refl _ _).alloc (Nat.le_refl _) twoBox).trans (hb.mono (by simp))
    have hsc := vsegscan_any B (segL twoR) c w1 (hh.below hb0 h0) q3 hrng q1 q2 (by omega)
    rw [hn] at hsc
    refine ⟨B, c, by rw [hn], hsc.mono ?_⟩
    rintro e w2 ⟨v2, rs, k, rfl, h1, h2, h3, h4, h5, h6⟩
    obtain ⟨rfl, rfl⟩ := hseg.one h1
    obtain ⟨C, d, rfl, h7, h8⟩ := h2.parts fun r hr => (two_right r hr).wf
    refine ⟨C, d, rfl, (samerecs_any w2 twoR (some ⟨w.heap.size, 0, none⟩) C 2 d ((((two_lie w).below hb (Nat.le_refl _))).below h6 (Nat.le_refl _)) h7).mono ?_⟩
    rintro e w3 ⟨rfl, m, rfl⟩
    exact ⟨rfl, below_drewN (hb0.trans (h6.mono hb0.size)) m⟩
  unfold twoBox at H1 H2
  have hq1 : decide (0 < (n : Int)) = true := decide_eq_true (by omega)
  have hq2 : decide (0 < n) = true := decide_eq_true hn0
  have hq3 : ((n : Int) == (n : Int)) = true := by simp
  have e2 : twoR.length = 2 := rfl
  simp only [e2] at H1
  clear hseg hrng hn hn1 e2 h0 hh
  go_enter Tryd.func7, Tryd.ntmps7
  go_wp2_with fail
  refine H1.out.mono ?_
  rintro e w1 ⟨v, rfl, ho, hb⟩
  obtain ⟨B, c, rfl, hsc⟩ := H2.out w1 v hb ho
  have HS := Lib.hid hsc
  clear hsc ho hb H1 H2
  go_wp2_with fail
  refine HS.out.mono ?_
  rintro e w2 ⟨C, d, rfl, hs⟩
  have HE := Lib.hid hs
  clear hs HS
  go_wp2_with (go_at_call 11; refine HE.out.mono ?_; rintro e w3 ⟨rfl, hb3⟩)
  go_ret
  exact ⟨rfl, hb3⟩
/-- Records that are not too great. -/
def SmallR (rs : List Rec) : Prop := rs.length ≤ 60 ∧ ∀ r ∈ rs, r.key.size ≤ 250 ∧ r.val.size ≤ 300
def BigSays (rs : List Rec) (w : World) (e : Ending) (w' : World) : Prop := w' = w ∧ ∃ r, e = .returned (.bool r) ∧ (r = false → SmallR rs)
set_option maxHeartbeats 1600000 in
set_option maxRecDepth 4000 in
theorem big_any (w0 w : World) (A : Option Addr) (rs : List Rec) (cap : Nat) (h : RecsLie w0 A rs cap) (hb : Below w0.heap.size w0 w) :
    Calls Tryd.prog 8 #[.slice A rs.length cap] w (BigSays rs w) := by
  have HA := Lib.hid h
  have hcl := h.2.1
  have hcm := h.2.2.1
  unfold maxLen at hcm
  clear h
  go_enter Tryd.func8, Tryd.ntmps8
  go_wp2_with fail
  go_loop [3] (fun iv => ∃ i : Nat, iv = .int .i64 i ∧ i ≤ rs.length ∧ ∀ j (h : j < rs.length), j < i → rs[j].key.size ≤ 250 ∧ rs[j].val.size ≤ 300) (fun iv => rs.length - (intOf iv).toNat)
  case atStart => exact ⟨0, rfl, Nat.zero_le _, fun j _ h => absurd h (by omega)⟩
  case round =>
    obtain ⟨i, rfl, hi, hsm⟩ := hrel
    have HSM := Lib.hid hsm
    clear hsm
    by_cases hlt : i < rs.length
    · obtain ⟨b, off, rfl, hbl, hat⟩ := HA.out.more hlt
      obtain ⟨g0, g1, g2, g3, g4⟩ := hat.keep (w' := w) fun j => hb.cell hbl
      obtain ⟨km, hkm⟩ : ∃ n, rs[i].key = n := ⟨_, rfl⟩
      obtain ⟨vm, hvm⟩ : ∃ n, rs[i].val = n := ⟨_, rfl⟩
      rw [hkm] at g2
      rw [hvm] at g3
      have HB1 := Lib.hid hkm
      have HB2 := Lib.hid hvm
      clear hat g0 g1 g4 hkm hvm hbl
      by_cases q1 : 250 < km.size
      · have z1 : decide ((250 : Int) < (km.size : Int)) = true := decide_eq_true (by omega)
        go_wp2
        go_ret
        exact ⟨rfl, true, rfl, fun h => by cases h⟩
      · have z1 : decide ((250 : Int) < (km.size : Int)) = false := decide_eq_false (by omega)
        by_cases q2 : 300 < vm.size
        · have z2 : decide ((300 : Int) < (vm.size : Int)) = true := decide_eq_true (by omega)
          go_wp2
          go_ret
          exact ⟨rfl, true, rfl, fun h => by cases h⟩
        · have z2 : decide ((300 : Int) < (vm.size : Int)) = false := decide_eq_false (by omega)
          go_wp2
          go_round
          case rel =>
            refine ⟨i + 1, by go_num, hlt, fun j h hj => ?_⟩
            by_cases e : j = i
            · subst e
              rw [HB1.out, HB2.out]
              exact ⟨Nat.le_of_not_lt q1, Nat.le_of_not_lt q2⟩
            · exact HSM.out j h (Nat.lt_of_le_of_ne (Nat.le_of_lt_succ hj) e)
          case measure => simp [intOf]; omega
    · obtain rfl : i = rs.length := by omega
      go_wp2
      go_ret
      refine ⟨rfl, _, rfl, fun h => ⟨?_, fun a ha => ?_⟩⟩
      · simp at h
        omega
      · obtain ⟨j, hj, rfl⟩ := List.getElem_of_mem ha
        exact HSM.out j hj hj
end Go.Proofs.YtaoflfdpagpgaaaDoor
