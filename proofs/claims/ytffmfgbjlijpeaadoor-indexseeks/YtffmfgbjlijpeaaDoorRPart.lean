/- A contract of the document's own part: a text behind its length. -/
import Derived.Test.YtffmfgbjlijpeaaDoorR1
import Derived.Test.YtffmfgbjlijpeaaDoorNums
namespace Go.Proofs.YtffmfgbjlijpeaaDoor
open Go.RowKit

/-- What a reading of a text answers; the world stays. -/
def TellsText (p : ByteArray × Int × Int) (w : World) (e : Ending) (w' : World) : Prop := e = .returned (.tuple #[.string p.1, .int .i64 p.2.1, .int .i64 p.2.2]) ∧ w = w'
theorem TellsText.mk {p : ByteArray × Int × Int} {w : World} {s : ByteArray} {b c : Int} (h : p = (s, b, c)) : TellsText p w (.returned (.tuple #[.string s, .int .i64 b, .int .i64 c])) w := by subst h; exact ⟨rfl, rfl⟩

/-- A number that is read: as plain numbers, within the bytes that there are. -/
theorem getR_nat {bs : List Int} {x k : Int} (hb : IsBytes bs) (h : getR bs = (x, k, 0)) : ∃ n m : Nat, x = n ∧ k = m ∧ m ≤ bs.length ∧ 1 ≤ m ∧ (n : Int) ≤ 18446744073709551615 := by
  obtain ⟨h0, h1, hk, rest, hd⟩ := getR_back hb h
  have hl := putL_length x
  refine ⟨x.toNat, (putL x).length, by omega, by omega, ?_, hl.1, by omega⟩
  have := congrArg List.length hd
  rw [List.length_append] at this
  omega

set_option maxRecDepth 100000 in
set_option maxHeartbeats 1600000 in
theorem refpart_any (A : Option Addr) (xs : List Int) (c i : Nat) (most : Int) (w : World) (hl : Lies .u8 w w.heap.size A xs) (hby : IsBytes xs) (hc : xs.length ≤ c) (hcm : c ≤ maxLen) (hi : i ≤ xs.length) (hm0 : 0 ≤ most) (hm1 : most ≤ 1000000) :
    Calls Tryd.prog 56 #[.slice A xs.length c, .int .i64 (i : Int), .int .i64 most] w (TellsText (partR xs i most) w) := by
  unfold maxLen at hcm
  have hiz : (i : Int) ≤ (xs.length : Int) := by omega
  obtain ⟨p, hp⟩ : ∃ p, partR xs i most = p := ⟨_, rfl⟩
  rw [hp]
  have HP := Lib.hid hp
  clear hp
  by_cases hci : c = i
  · have hxi : xs.length = i := by omega
    have hget := refget_any A [] 0 w Lies.nil (fun _ h => by cases h)
    have hfin : p = (⟨#[]⟩, 0, 4) := by
      rw [← HP.out]
      unfold partR
      rw [List.drop_eq_nil_of_le (by omega)]
      rfl
    have HF := Lib.hid hfin
    subst hci
    have hxz : xs.length - c = 0 := by omega
    have hg : getR [] = (0, 0, 4) := rfl
    rw [hg] at hget
    clear hfin hg hxi hi hc
    go_enter Tryd.func56, Tryd.ntmps56
    go_wp2_with fail
    refine hget.mono ?_
    rintro e w1 ⟨rfl, rfl⟩
    go_wp2
    go_ret3
    exact TellsText.mk HF.out
  have hlc := hl.cut (n := i) hc
  rw [if_neg hci] at hlc
  have hbd : IsBytes (xs.drop i) := fun x hx => hby x (List.mem_of_mem_drop hx)
  have hget := refget_any _ (xs.drop i) (c - i) w hlc hbd
  rw [List.length_drop] at hget
  obtain ⟨x, k, e, hg⟩ : ∃ x k e, getR (xs.drop i) = (x, k, e) := ⟨_, _, _, rfl⟩
  rw [hg] at hget
  have HG := Lib.hid hg
  clear hg
  by_cases he : e = 0
  · subst he
    obtain ⟨n, m, rfl, rfl, hm, hm2, hn⟩ := getR_nat hbd HG.out
    rw [List.length_drop] at hm
    by_cases hbig : most < (n : Int)
    · have hfin : p = (⟨#[]⟩, 0, 2) := by
        rw [← HP.out]
        unfold partR
        rw [HG.out]
        simp only
        rw [if_neg (by omega), if_pos hbig]
      have HF := Lib.hid hfin
      have hwm : IntKind.u64.wrap most = most := by rw [IntKind.wrap_u64]; omega
      clear hfin hlc
      go_enter Tryd.func56, Tryd.ntmps56
      go_wp2_with fail
      refine hget.mono ?_
      rintro e w1 ⟨rfl, rfl⟩
      go_wp2
      go_ret3
      exact TellsText.mk HF.out
    · have hwm : IntKind.u64.wrap most = most := by rw [IntKind.wrap_u64]; omega
      by_cases hsh : (xs.length : Int) - ((i : Int) + (m : Int)) < (n : Int)
      · have hfin : p = (⟨#[]⟩, 0, 4) := by
          rw [← HP.out]
          unfold partR
          rw [HG.out]
          simp only
          rw [if_neg (by omega), if_neg hbig, if_pos hsh]
        have HF := Lib.hid hfin
        clear hfin hlc
        go_enter Tryd.func56, Tryd.ntmps56
        go_wp2_with fail
        refine hget.mono ?_
        rintro e w1 ⟨rfl, rfl⟩
        go_wp2
        go_ret3
        exact TellsText.mk HF.out
      · have hfin : p = (textOf ((xs.drop (i + m)).take n), (i : Int) + m + n, 0) := by
          rw [← HP.out]
          unfold partR
          rw [HG.out]
          simp only [Int.toNat_natCast]
          rw [if_neg (by omega), if_neg hbig, if_neg hsh]
        have HF := Lib.hid hfin
        clear hfin hlc
        obtain ⟨t, ht⟩ : ∃ t, textOf ((xs.drop (i + m)).take n) = t := ⟨_, rfl⟩
        have hlm := (hl.cut (n := i + m) hc).take n
        have hln : ((xs.drop (i + m)).take n).length = n := by rw [List.length_take, List.length_drop]; omega
        have hcv := conv_bytes (P := Tryd.prog) 33 9 5 Tryd.underlying33 Tryd.underlying5 Tryd.underlying9 hlm (c - (i + m))
        rw [hln, ht] at hcv
        have HT := Lib.hid ht
        clear ht hln hlm
        by_cases hce : c = i + m
        · rw [if_pos hce] at hcv
          obtain rfl : n = 0 := by omega
          subst hce
          rw [Nat.sub_self] at hcv
          rw [Nat.add_sub_cancel_left] at hget
          go_enter Tryd.func56, Tryd.ntmps56
          go_wp2_with fail
          refine hget.mono ?_
          rintro e w1 ⟨rfl, rfl⟩
          go_wp2
          go_ret3
          exact TellsText.mk (by rw [HF.out, HT.out]; simp)
        · rw [if_neg hce] at hcv
          go_enter Tryd.func56, Tryd.ntmps56
          go_wp2_with fail
          refine hget.mono ?_
          rintro e w1 ⟨rfl, rfl⟩
          go_wp2
          go_ret3
          exact TellsText.mk (by rw [HF.out, HT.out])
  · have hfin : p = (⟨#[]⟩, 0, e) := by
      rw [← HP.out]
      unfold partR
      rw [HG.out]
      simp only
      rw [if_pos he]
    have HF := Lib.hid hfin
    have heb : (e != 0) = true := by simpa using he
    clear hfin hlc
    go_enter Tryd.func56, Tryd.ntmps56
    go_wp2_with fail
    refine hget.mono ?_
    rintro e' w1 ⟨rfl, rfl⟩
    go_wp2
    go_ret3
    exact TellsText.mk HF.out
end Go.Proofs.YtffmfgbjlijpeaaDoor
