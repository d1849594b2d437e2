/- A contract of the program's frame.Get. -/
import Derived.Test.YtaoflfdpagpgaaaDoorVSum
import Derived.Test.YtaoflfdpagpgaaaDoorVGet
import Derived.Deep.QuietTactic
import Derived.BigQuiet
namespace Go.Proofs.YtaoflfdpagpgaaaDoor
open Go.RowKit

/-- What a reading of a frame answers: new bytes, how many bytes the frame has, the error. -/
def TellsB (r : List Int × Int × Int) (w : World) (e : Ending) (w' : World) : Prop := ∃ v, e = .returned (.tuple #[v, .int .i64 r.2.1, .int .i64 r.2.2]) ∧ Own .u8 5 w' w.heap.size v r.1 ∧ Below w.heap.size w w'
theorem TellsB.nil {r : List Int × Int × Int} {w : World} {b c : Int} (h : r = ([], b, c)) : TellsB r w (.returned (.tuple #[.slice none 0 0, .int .i64 b, .int .i64 c])) w := by subst h; exact ⟨_, rfl, Own.nil, Below.refl _ _⟩
theorem TellsB.drew {r : List Int × Int × Int} {w : World} {b c : Int} {m : Nat} (h : r = ([], b, c)) : TellsB r w (.returned (.tuple #[.slice none 0 0, .int .i64 b, .int .i64 c])) (w.drewN m) := by
  subst h; exact ⟨_, rfl, Own.nil, ⟨rfl, rfl, rfl, Nat.le_refl _, fun _ _ => rfl⟩⟩
theorem TellsB.mk {r : List Int × Int × Int} {w w' : World} {b : Int} {v : Value} {p : List Int} (h : r = (p, b, 0)) (ho : Own .u8 5 w' w.heap.size v p) (hb : Below w.heap.size w w') : TellsB r w (.returned (.tuple #[v, .int .i64 b, .int .i64 0])) w' := by subst h; exact ⟨_, rfl, ho, hb⟩

set_option maxHeartbeats 800000 in
theorem fget_any (A : Option Addr) (xs : List Int) (c : Nat) (w : World) (hh : Half w) (hl : Lies .u8 w w.heap.size A xs) (hby : IsBytes xs) (hc : xs.length ≤ c) (hcm : c ≤ maxLen) :
    Calls Tryd.prog 37 #[.slice A xs.length c] w (TellsB (getFr xs) w) := by
  obtain ⟨i0, hi0, hz0, hz1, hz2⟩ := info_parts byte_info
  obtain ⟨R, hR⟩ : ∃ R, R = getFr xs := ⟨_, rfl⟩
  rw [← hR]
  have HR := Lib.hid hR
  clear hR
  have hg := get_any A xs c w hl hby
  obtain ⟨x, k, e, hx⟩ : ∃ x k e, getR xs = (x, k, e) := ⟨_, _, _, rfl⟩
  rw [hx] at hg
  have HX := Lib.hid hx
  have HG := Lib.hid hg
  clear hx hg
  unfold maxLen at hcm
  by_cases he : e ≠ 0
  · have hb : (e != 0) = true := by simp [he]
    have hfin := Lib.hid (HR.out.trans (getFr_err HX.out he))
    clear he
    go_enter Tryd.func37, Tryd.ntmps37
    go_wp2_with fail
    refine HG.out.mono ?_
    rintro e w1 ⟨rfl, rfl⟩
    go_wp2
    go_ret3
    exact TellsB.nil hfin.out
  obtain rfl : e = 0 := by omega
  obtain ⟨len, n, rfl, rfl, hn1, hn10, hnl, hlen⟩ := getR_nats hby HX.out
  clear he
  by_cases hlong : 16777216 < len
  · have hfin := Lib.hid (HR.out.trans (getFr_long HX.out (by omega)))
    have h1 : (16777216 : Int) < (len : Int) := by omega
    go_enter Tryd.func37, Tryd.ntmps37
    go_wp2_with fail
    refine HG.out.mono ?_
    rintro e w1 ⟨rfl, rfl⟩
    go_wp2
    go_ret3
    exact TellsB.nil hfin.out
  have h1 : ¬ (16777216 : Int) < (len : Int) := by omega
  by_cases hshort : xs.length < n + 4 + len
  · have hfin := Lib.hid (HR.out.trans (getFr_short HX.out (by omega) (by omega)))
    have h2 : (xs.length : Int) < (n : Int) + 4 + (len : Int) := by omega
    go_enter Tryd.func37, Tryd.ntmps37
    go_wp2_with fail
    refine HG.out.mono ?_
    rintro e w1 ⟨rfl, rfl⟩
    go_wp2
    go_ret3
    exact TellsB.nil hfin.out
  have h2 : ¬ (xs.length : Int) < (n : Int) + 4 + (len : Int) := by omega
  obtain ⟨b, off, rfl, hbl, _⟩ := hl.at_ (j := 0) (by omega)
  go_enter Tryd.func37, Tryd.ntmps37
  go_wp2_with fail
  refine HG.out.mono ?_
  rintro e w1 ⟨rfl, rfl⟩
  go_wp2_with fail
  have e1 : (n : Int) + 4 + (len : Int) = ((n + 4 + len : Nat) : Int) := by omega
  have e2 : (n : Int) + 4 = ((n + 4 : Nat) : Int) := by omega
  rw [e1, e2]
  clear e1 e2
  have ht : n + 4 + len ≤ xs.length := by omega
  have hft : n + 4 ≤ n + 4 + len := by omega
  have hnf : n ≤ n + 4 := by omega
  clear h2 h1 hshort
  obtain ⟨t, htE⟩ : ∃ t, n + 4 + len = t := ⟨_, rfl⟩
  obtain ⟨f, hfE⟩ : ∃ f, n + 4 = f := ⟨_, rfl⟩
  rw [htE] at ht hft ⊢
  rw [hfE] at hnf hft ⊢
  have htc : t ≤ c := by omega
  have hfc : f ≤ c := by omega
  have HTE := Lib.hid htE
  have HFE := Lib.hid hfE
  clear htE hfE
  have hn0 := HFE.out
  have hcn : ¬ c = n := by omega
  have ht0 := HTE.out
  have hPl : ((xs.drop f).take len).length = t - f := by rw [List.length_take, List.length_drop]; omega
  have hQl : ((xs.drop n).take 4).length = 4 := by rw [List.length_take, List.length_drop]; omega
  have hLP : Lies .u8 w w.heap.size (if c = f then some ⟨b, off, none⟩ else some ⟨b, off + f, none⟩) ((xs.drop f).take len) := by
    have := (hl.cut (n := f) hc).take len
    simpa [add_lit] using this
  have hLQ : Lies .u8 w w.heap.size (some ⟨b, off + n, none⟩) ((xs.drop n).take 4) := by
    have := (hl.cut (n := n) hc).take 4
    rw [if_neg hcn] at this
    simpa [add_lit] using this
  have hbP : IsBytes ((xs.drop f).take len) := fun q hq => hby q (List.mem_of_mem_drop (List.mem_of_mem_take hq))
  have hbQ : IsBytes ((xs.drop n).take 4) := fun q hq => hby q (List.mem_of_mem_drop (List.mem_of_mem_take hq))
  have hx2 : f - n = 4 := by omega
  have hS1 : ∀ m, Calls Tryd.prog 30 #[.slice (if c = f then some ⟨b, off, none⟩ else some ⟨b, off + f, none⟩) (t - f) (c - f)] (w.drewN m) fun e w' => e = .returned (.int .u32 ((moreN 0 ((xs.drop f).take len) : Nat) : Int)) ∧ w' = w.drewN m := fun m => by
    have := sum_any _ ((xs.drop f).take len) (c - f) (w.drewN m) hh hLP hbP (by rw [hPl]; simp only [maxLen]; omega)
    rw [hPl] at this
    exact this.mono fun e w' h => ⟨h.1, h.2.symm⟩
  have hS2 : ∀ m, Calls Tryd.prog 46 #[.slice (some ⟨b, off + n, none⟩) (f - n) (c - n)] (w.drewN m) fun e w' => e = .returned (.int .u32 (sumOf ((xs.drop n).take 4))) ∧ w' = w.drewN m := fun m => by
    have := getsum_any _ ((xs.drop n).take 4) (c - n) (w.drewN m) hLQ hbQ hQl (by omega)
    rw [hQl] at this
    rw [hx2]
    exact this.mono fun e w' h => ⟨h.1, h.2.symm⟩
  have hfin : (((moreN 0 ((xs.drop f).take len) : Nat) : Int) ≠ sumOf ((xs.drop n).take 4) → R = ([], 0, 5)) ∧ (((moreN 0 ((xs.drop f).take len) : Nat) : Int) = sumOf ((xs.drop n).take 4) → R = ((xs.drop f).take len, (t : Int), 0)) := by
    have e1 : f = n + 4 := by omega
    have e2 : t = n + 4 + len := by omega
    rw [e1, e2]
    exact ⟨fun h => HR.out.trans (getFr_sum HX.out (by omega) (by omega) h), fun h => HR.out.trans (getFr_ok HX.out (by omega) (by omega) h)⟩
  obtain ⟨P, hPE⟩ : ∃ P, (xs.drop f).take len = P := ⟨_, rfl⟩
  rw [hPE] at hS1 hfin hPl hLP
  obtain ⟨r1, hr1⟩ : ∃ r, moreN 0 P = r := ⟨_, rfl⟩
  obtain ⟨r2, hr2⟩ : ∃ r, sumOf ((xs.drop n).take 4) = r := ⟨_, rfl⟩
  rw [hr1] at hS1 hfin
  rw [hr2] at hS2 hfin
  have H1 := Lib.hid hS1
  have H2 := Lib.hid hS2
  have HF := Lib.hid hfin
  have HPL := Lib.hid hPl
  have HLP := Lib.hid hLP
  clear hS1 hS2 hfin hPl hLP hPE hr1 hr2 hQl hLQ hbP hbQ hx2 hn0 ht0
  by_cases hs : (r1 : Int) = r2
  · have hsb : ((r1 : Int) != r2) = false := by simp [hs]
    have hR := Lib.hid (HF.out.2 hs)
    clear hs HF
    go_quiet (first
      | (go_at_call 30; refine Calls.quiet_of_same (H1.out _))
      | (go_at_call 46; refine Calls.quiet_of_same (H2.out _)))
    go_wp2_with fail
    case inl h =>
      have hlp := HLP.out
      rw [if_pos h] at hlp
      have hpl := HPL.out
      have hcl := clone_any ⟨b, off, none⟩ P 0 (w.drewN nq) hlp (by omega) (by have := HTE.out; have := HFE.out; omega)
      rw [hpl] at hcl
      refine hcl.mono ?_
      rintro e w2 ⟨v, rfl, hown, hbel⟩
      clear hcl hlp hpl
      go_wp2
      go_ret3
      exact TellsB.mk hR.out hown (below_undrewN hbel)
    case inr h =>
      have hlp := HLP.out
      rw [if_neg h] at hlp
      have hpl := HPL.out
      have hcl := clone_any ⟨b, off + f, none⟩ P (c - f) (w.drewN nq) hlp (by omega) (by have := HTE.out; have := HFE.out; omega)
      rw [hpl] at hcl
      refine hcl.mono ?_
      rintro e w2 ⟨v, rfl, hown, hbel⟩
      clear hcl hlp hpl
      go_wp2
      go_ret3
      exact TellsB.mk hR.out hown (below_undrewN hbel)
  · have hsb : ((r1 : Int) != r2) = true := by simp [hs]
    have hR := Lib.hid (HF.out.1 hs)
    clear hs HF
    go_quiet (first
      | (go_at_call 30; refine Calls.quiet_of_same (H1.out _))
      | (go_at_call 46; refine Calls.quiet_of_same (H2.out _)))
    go_wp2
    all_goals
      go_ret3
      exact TellsB.drew hR.out
end Go.Proofs.YtaoflfdpagpgaaaDoor
