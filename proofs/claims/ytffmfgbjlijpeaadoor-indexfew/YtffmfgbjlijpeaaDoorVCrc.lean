/- Contracts of the functions that sum bytes: the program's and the document's own. -/
import Derived.Test.YtffmfgbjlijpeaaDoorBytes
import Derived.Test.YtffmfgbjlijpeaaDoorNums
namespace Go.Proofs.YtffmfgbjlijpeaaDoor
open Go.RowKit

/-- The program's table lies where it is looked for. -/
def Half (w : World) : Prop := ∀ k, k < 16 → w.cell? ⟨0, k, none⟩ = some (.int .u32 ((halfL.getD k 0 : Nat) : Int))

/-- A call that answers a sum; the world stays. -/
def Sums (n : Nat) (w : World) (e : Ending) (w' : World) : Prop := e = .returned (.int .u32 (n : Int)) ∧ w = w'

/-- Four bits driven out, in the walk's own words. -/
theorem nib_walk {w : World} (hh : Half w) {r : Nat} (hr : r < 4294967296) : ∃ h : Nat, bits .xor .u32 (h : Int) ((r : Int) / 16) = ((nibN r : Nat) : Int) ∧
    ∃ m : Nat, w.cell? ⟨0, m, none⟩ = some (.int .u32 (h : Int)) ∧ ((r : Int).tmod 16 = (m : Int) ∧ m < 16) := by
  refine ⟨halfL.getD (r % 16) 0, ?_, r % 16, hh _ (Nat.mod_lt _ (by decide)), ?_, Nat.mod_lt _ (by decide)⟩
  · have e : ((r : Int) / 16) = ((r / 16 : Nat) : Int) := by omega
    rw [e, u32_xor_nat _ _ ?_ (by omega)]
    · rfl
    · have h16 : ∀ k : Fin 16, halfL.getD k.val 0 < 4294967296 := by decide
      exact h16 ⟨r % 16, Nat.mod_lt _ (by decide)⟩
  · rw [Int.tmod_eq_emod_of_nonneg (by omega)]; omega

set_option maxHeartbeats 800000 in
theorem more_any (s : Nat) (A : Option Addr) (xs : List Int) (c : Nat) (w : World) (hh : Half w) (hs : s < 4294967296) (hl : Lies .u8 w w.heap.size A xs) (hby : Bytes xs) (hm : xs.length ≤ maxLen) :
    Calls Tryd.prog 50 #[.int .u32 (s : Int), .slice A xs.length c] w (Sums (moreN s xs) w) := by
  have hnot := u32_not s hs
  have hsg : IntKind.u32.signed = false := rfl
  unfold maxLen at hm
  go_enter Tryd.func50, Tryd.ntmps50
  go_wp2_with fail
  go_loop [5, 7, 12] (fun rv _ iv => ∃ (k r : Nat), rv = .int .u32 (r : Int) ∧ iv = .int .i64 k ∧ k ≤ xs.length ∧ r < 4294967296 ∧ runN (4294967295 - s) xs = runN r (xs.drop k))
    (fun _ _ iv => xs.length - (intOf iv).toNat)
  case atStart => exact ⟨0, 4294967295 - s, rfl, rfl, Nat.zero_le _, by omega, by simp⟩
  case round =>
    obtain ⟨k, r, rfl, rfl, hk, hr, hat⟩ := hrel
    by_cases hlt : k < xs.length
    · obtain ⟨b, off, rfl, hbl, hcell⟩ := hl.at_ hlt
      obtain ⟨hc0, hc1⟩ := hby _ (List.getElem_mem hlt)
      obtain ⟨q, hq⟩ : ∃ q, xs[k] = q := ⟨_, rfl⟩
      rw [hq] at hcell hc0 hc1
      have HQ := Lib.hid hq
      clear hq
      have hst : byteN r q = nibN (nibN (r ^^^ q.toNat)) := (byte_nib r q).symm
      have e1 : bits .xor .u32 (r : Int) q = ((r ^^^ q.toNat : Nat) : Int) := u32_xor _ _ (by omega) (by omega) hc0 (by omega)
      have hr1 : r ^^^ q.toNat < 4294967296 := xor_lt hr (by omega)
      obtain ⟨r1, hr1e⟩ : ∃ r1, r ^^^ q.toNat = r1 := ⟨_, rfl⟩
      rw [hr1e] at hst e1 hr1
      clear hr1e
      obtain ⟨h2, e2, m2, hc2, hm2⟩ := nib_walk hh hr1
      have hr2 := nib_lt hr1
      obtain ⟨r2, hr2e⟩ : ∃ r2, nibN r1 = r2 := ⟨_, rfl⟩
      rw [hr2e] at hst e2 hr2
      clear hr2e
      obtain ⟨h3, e3, m3, hc3, hm3⟩ := nib_walk hh hr2
      have hr3 := nib_lt hr2
      obtain ⟨r3, hr3e⟩ : ∃ r3, nibN r2 = r3 := ⟨_, rfl⟩
      rw [hr3e] at hst e3 hr3
      clear hr3e
      have HST := Lib.hid hst
      clear hst
      have HAT := Lib.hid hat
      clear hat
      go_wp2
      go_round
      case rel =>
        refine ⟨k + 1, r3, rfl, by go_num, by omega, hr3, ?_⟩
        rw [HAT.out, List.drop_eq_getElem_cons hlt, HQ.out, ← HST.out]
        rfl
      case measure => simp [intOf]; omega
    · have HAT := Lib.hid hat
      clear hat
      have hk2 : k = xs.length := by omega
      have hnr := u32_not r hr
      have hfin : moreN s xs = 4294967295 - r := by
        unfold moreN
        rw [HAT.out, hk2, List.drop_length]; rfl
      have HF := Lib.hid hfin
      clear hfin hk2
      go_wp2_with fail
      go_ret
      exact ⟨by rw [HF.out]; rfl, rfl⟩

theorem u32_and1 (y : Int) (h0 : 0 ≤ y) (h1 : y ≤ 4294967295) : bits .and .u32 y 1 = y % 2 :=
  bits_mask .u32 32 (by decide) (fun n h h' => by rw [IntKind.wrap_u32]; exact Int.emod_eq_of_lt h (by simpa using h')) 1 (by decide) y h0 (by rw [show (2 : Int) ^ 32 = 4294967296 from by decide]; omega)

set_option maxHeartbeats 800000 in
theorem refmore_any (s : Nat) (A : Option Addr) (xs : List Int) (c : Nat) (w : World) (hs : s < 4294967296) (hl : Lies .u8 w w.heap.size A xs) (hby : Bytes xs) (hm : xs.length ≤ maxLen) :
    Calls Tryd.prog 46 #[.int .u32 (s : Int), .slice A xs.length c] w (Sums (moreN s xs) w) := by
  have hnot := u32_not s hs
  have hsg : IntKind.u32.signed = false := rfl
  unfold maxLen at hm
  go_enter Tryd.func46, Tryd.ntmps46
  go_wp2_with fail
  go_loop [5, 6, 7] (fun rv iv _ => ∃ (k r : Nat), rv = .int .u32 (r : Int) ∧ iv = .int .i64 k ∧ k ≤ xs.length ∧ r < 4294967296 ∧ runN (4294967295 - s) xs = runN r (xs.drop k))
    (fun _ iv _ => xs.length - (intOf iv).toNat)
  case atStart => exact ⟨0, 4294967295 - s, rfl, rfl, Nat.zero_le _, by omega, by simp⟩
  case round =>
    obtain ⟨k, r, rfl, rfl, hk, hr, hat⟩ := hrel
    have HAT := Lib.hid hat
    clear hat
    by_cases hlt : k < xs.length
    · obtain ⟨b, off, rfl, hbl, hcell⟩ := hl.at_ hlt
      obtain ⟨hc0, hc1⟩ := hby _ (List.getElem_mem hlt)
      obtain ⟨q, hq⟩ : ∃ q, xs[k] = q := ⟨_, rfl⟩
      rw [hq] at hcell hc0 hc1
      have HQ := Lib.hid hq
      clear hq
      have hst : byteN r q = itN 8 (r ^^^ q.toNat) := rfl
      have e1 : bits .xor .u32 (r : Int) q = ((r ^^^ q.toNat : Nat) : Int) := u32_xor _ _ (by omega) (by omega) hc0 (by omega)
      have hr1 : r ^^^ q.toNat < 4294967296 := xor_lt hr (by omega)
      obtain ⟨r1, hr1e⟩ : ∃ r1, r ^^^ q.toNat = r1 := ⟨_, rfl⟩
      rw [hr1e] at hst e1 hr1
      clear hr1e
      have HST := Lib.hid hst
      clear hst
      go_wp2_with fail
      go_loop [5, 7] (fun rv jv => ∃ j t : Nat, rv = .int .u32 (t : Int) ∧ jv = .int .i64 j ∧ j ≤ 8 ∧ t < 4294967296 ∧ itN 8 r1 = itN (8 - j) t)
        (fun _ jv => 8 - (intOf jv).toNat)
      case atStart => exact ⟨0, r1, rfl, rfl, by omega, hr1, rfl⟩
      case round =>
        obtain ⟨j, t, rfl, rfl, hj, ht, hit⟩ := hrel
        have HIT := Lib.hid hit
        clear hit
        have hand := u32_and1 t (by omega) (by omega)
        by_cases hj8 : j < 8
        · have hjn : 8 - j = (8 - (j + 1)) + 1 := by omega
          have HJ := Lib.hid hjn
          clear hjn
          by_cases ho : t % 2 = 1
          · have hb : ((t : Int) % 2 == 1) = true := by simp; omega
            have e2 : bits .xor .u32 ((t : Int) / 2) 3988292384 = ((bitN t : Nat) : Int) := by
              rw [u32_xor _ _ (by omega) (by omega) (by omega) (by omega), bitN, if_pos ho]
              rfl
            have ht2 := bitN_lt ht
            obtain ⟨t2, ht2e⟩ : ∃ t2, bitN t = t2 := ⟨_, rfl⟩
            have HT := Lib.hid ht2e
            rw [ht2e] at e2 ht2
            clear ht2e ho
            go_wp2
            go_round
            case rel => exact ⟨j + 1, t2, rfl, by go_num, by omega, ht2, by rw [HIT.out, HJ.out, itN, HT.out]⟩
            case measure => simp [intOf]; omega
          · have hb : ((t : Int) % 2 == 1) = false := by simp; omega
            have e2 : (t : Int) / 2 = ((bitN t : Nat) : Int) := by rw [bitN, if_neg ho]; omega
            have ht2 := bitN_lt ht
            obtain ⟨t2, ht2e⟩ : ∃ t2, bitN t = t2 := ⟨_, rfl⟩
            have HT := Lib.hid ht2e
            rw [ht2e] at e2 ht2
            have HE := Lib.hid e2
            clear ht2e ho e2
            go_wp2
            go_round
            case rel => exact ⟨j + 1, t2, by rw [HE.out], by go_num, by omega, ht2, by rw [HIT.out, HJ.out, itN, HT.out]⟩
            case measure => simp [intOf]; omega
        · have hfin : itN 8 r1 = t := by rw [HIT.out, show 8 - j = 0 from by omega]; rfl
          have HF := Lib.hid hfin
          clear hfin
          go_wp2
          go_round
          case rel =>
            refine ⟨k + 1, t, rfl, by go_num, by omega, ht, ?_⟩
            rw [HAT.out, List.drop_eq_getElem_cons hlt, HQ.out, ← HF.out, ← HST.out]
            rfl
          case measure => simp [intOf]; omega
    · have hk2 : k = xs.length := by omega
      have hnr := u32_not r hr
      have hfin : moreN s xs = 4294967295 - r := by
        unfold moreN
        rw [HAT.out, hk2, List.drop_length]; rfl
      have HF := Lib.hid hfin
      clear hfin hk2
      go_wp2_with fail
      go_ret
      exact ⟨by rw [HF.out]; rfl, rfl⟩

theorem sum_any (A : Option Addr) (xs : List Int) (c : Nat) (w : World) (hh : Half w) (hl : Lies .u8 w w.heap.size A xs) (hby : Bytes xs) (hm : xs.length ≤ maxLen) :
    Calls Tryd.prog 42 #[.slice A xs.length c] w (Sums (moreN 0 xs) w) := by
  go_enter Tryd.func42, Tryd.ntmps42
  go_wp2_with fail
  refine (more_any 0 A xs c w hh (by omega) hl hby hm).mono ?_
  rintro e w1 ⟨rfl, rfl⟩
  go_wp2
  go_ret
  exact ⟨rfl, rfl⟩
theorem refsum_any (A : Option Addr) (xs : List Int) (c : Nat) (w : World) (hl : Lies .u8 w w.heap.size A xs) (hby : Bytes xs) (hm : xs.length ≤ maxLen) :
    Calls Tryd.prog 36 #[.slice A xs.length c] w (Sums (moreN 0 xs) w) := by
  go_enter Tryd.func36, Tryd.ntmps36
  go_wp2_with fail
  refine (refmore_any 0 A xs c w (by omega) hl hby hm).mono ?_
  rintro e w1 ⟨rfl, rfl⟩
  go_wp2
  go_ret
  exact ⟨rfl, rfl⟩

theorem Half.pos {w : World} (hh : Half w) : 0 < w.heap.size := by
  have := hh 0 (by decide)
  rcases Nat.eq_zero_or_pos w.heap.size with h | h
  · rw [World.cell?, Array.getElem?_eq_none (by omega)] at this
    cases this
  · exact h
theorem Half.below {w w' : World} {B : Nat} (h : Half w) (hb : Below B w w') (h0 : 0 < B) : Half w' := fun k hk => (hb.cell h0).trans (h k hk)
end Go.Proofs.YtffmfgbjlijpeaaDoor
