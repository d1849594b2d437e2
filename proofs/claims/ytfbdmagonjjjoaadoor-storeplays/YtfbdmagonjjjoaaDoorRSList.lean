/- Contracts of the document's own Names and List, of a store. -/
import Derived.Test.YtfbdmagonjjjoaaDoorRSFault
import Derived.Test.YtfbdmagonjjjoaaDoorOwnTexts
import Derived.Test.YtfbdmagonjjjoaaDoorCame
namespace Go.Proofs.YtfbdmagonjjjoaaDoor
open Go.RowKit

set_option maxHeartbeats 800000 in
theorem osnames_any (base : Nat) (S : Nat → Prop) (w : World) (p : Nat) (room : Int) (fs : List FileV) (bad : List Int) (hR : RStore base S w p room fs bad) (hlen : fs.length ≤ 549755813888) :
    Calls Tryd.prog 39 #[.pointer (some ⟨p, 0, none⟩)] w fun e w' => ∃ v, e = .returned v ∧ OwnT w' w.heap.size v (namesM (filesOf fs)) ∧ Below w.heap.size w w' := by
  obtain ⟨A, c, Ab, cb, c0, c1, _, hc, hm, _, hfs, _⟩ := hR.cells
  have hpl : p < w.heap.size := cell_block_lt c0
  unfold maxLen at hm
  clear hR
  obtain ⟨T, hT⟩ : ∃ T, namesM (filesOf fs) = T := ⟨_, rfl⟩
  have hTl : T.length = fs.length := by rw [← hT]; simp [namesM, filesOf]
  have HT := Lib.hid hT
  have HTL := Lib.hid hTl
  rw [hT]
  clear hT hTl
  go_enter Tryd.func39, Tryd.ntmps39
  go_wp2_with fail
  go_loopw [3, 4] (fun v iv wr => ∃ k : Nat, iv = .int .i64 k ∧ k ≤ fs.length ∧ OwnT wr w.heap.size v (T.take k) ∧ Below w.heap.size w wr)
    (fun _ iv _ => fs.length - (intOf iv).toNat)
  case atStart => exact ⟨0, rfl, Nat.zero_le _, OwnT.nil, Below.refl _ _⟩
  case round =>
    obtain ⟨k, rfl, hk, hown, hbr⟩ := hrel
    have d1 : wr.cell? ⟨p, 1, none⟩ = some (.slice A fs.length c) := (hbr.cell hpl).trans c1
    by_cases hlt : k < fs.length
    · obtain ⟨g, off, rfl, hgl, hat⟩ := hfs (by rintro rfl; simp at hlt)
      obtain ⟨n0, _⟩ := hat k hlt
      have m0 := (hbr.cell (p := ⟨g, off + k * 2, none⟩) hgl).trans n0
      have htk : (T.take (k + 1)) = T.take k ++ [fs[k].1.name] := by
        have hkT : k < T.length := by rw [HTL.out]; exact hlt
        rw [List.take_succ_eq_append_getElem hkT]
        congr 2
        have : T[k] = (namesM (filesOf fs))[k]'(by rw [HT.out]; exact hkT) := by simp [HT.out]
        rw [this]
        simp [namesM, filesOf]
      generalize fs[k].1.name = nm at m0 htk
      have HTK := Lib.hid htk
      have hlk : (T.take k).length = k := by rw [List.length_take, HTL.out]; omega
      have hbs := hbr.size
      have hb3 : (T.take k).length + 1 ≤ 1099511627776 := by omega
      clear htk hat n0 hlk
      generalize T.take k = ts at hown HTK hb3
      go_wp2_with (at_builtin; refine wpList_append_text1 rfl (.tmp 14) (.tmp 23) rfl w.heap.size _ ts rfl wr nm rfl hown rfl hb3 hbs ?_; intro v3 w3 hown3 hbel3)
      go_roundw
      case rel => exact ⟨k + 1, rfl, by omega, by rw [HTK.out]; exact hown3, hbr.trans hbel3⟩
      case measure => simp [intOf]; omega
    · have HF := Lib.hid (show T.take k = T from List.take_of_length_le (by rw [HTL.out]; omega))
      go_wp2
      go_ret
      exact ⟨_, rfl, HF.out ▸ hown, hbr⟩
/-- What List answers, by its number. -/
def faultyL (k : Int) (l : List FileM) : List ByteArray × Int := if k = 0 then (namesM l, 0) else ([], 9)
theorem faultyL_0 (l : List FileM) : faultyL 0 l = (namesM l, 0) := rfl
theorem faultyL_no {k : Int} (h : k ≠ 0) (l : List FileM) : faultyL k l = ([], 9) := by unfold faultyL; rw [if_neg h]
def TellsN (base : Nat) (S : Nat → Prop) (p : Nat) (room : Int) (fs : List FileV) (bad : List Int) (r : List ByteArray × Int) (w : World) (e : Ending) (w' : World) : Prop :=
  ∃ v w1, e = .returned (.tuple #[v, .int .i64 r.2]) ∧ OLeft base S w w1 p room fs bad ∧ OwnT w' w1.heap.size v r.1 ∧ Below w1.heap.size w1 w'
set_option maxHeartbeats 800000 in
theorem oslist_any (base : Nat) (S : Nat → Prop) (w : World) (p : Nat) (room : Int) (fs : List FileV) (bad : List Int) (hR : RStore base S w p room fs bad) (hbl : bad.length ≤ 1000000) (hlen : fs.length ≤ 549755813888) :
    Calls Tryd.prog 23 #[.pointer (some ⟨p, 0, none⟩)] w (TellsN base S p room fs bad.tail (faultyL (bad.headD 0) (filesOf fs)) w) := by
  have HT := Lib.hid (osfault_any hR hbl)
  have HN := Lib.hid (fun (w1 : World) (hL : OLeft base S w w1 p room fs bad.tail) => osnames_any base _ w1 p room fs bad.tail hL.store hlen)
  obtain ⟨k, hk⟩ : ∃ k, bad.headD 0 = k := ⟨_, rfl⟩
  rw [hk] at HT ⊢
  generalize bad.tail = bt at *
  clear hR hbl hlen hk
  by_cases h0 : k = 0
  · subst h0
    rw [faultyL_0]
    go_enter Tryd.func23, Tryd.ntmps23
    go_wp2_with fail
    refine HT.out.mono ?_
    rintro e w1 ⟨rfl, hL⟩
    have HN1 := Lib.hid (HN.out w1 hL)
    go_wp2_with fail
    refine HN1.out.mono ?_
    rintro e w2 ⟨v, rfl, ho, hb⟩
    go_wp2
    go_ret2
    exact ⟨v, w1, rfl, hL, ho, hb⟩
  · have b0 : (k != 0) = true := by simpa using h0
    rw [faultyL_no h0]
    clear HN h0
    go_enter Tryd.func23, Tryd.ntmps23
    go_wp2_with fail
    refine HT.out.mono ?_
    rintro e w1 ⟨rfl, hL⟩
    go_wp2
    go_ret2
    exact ⟨_, w1, rfl, hL, OwnT.nil, Below.refl _ _⟩
end Go.Proofs.YtfbdmagonjjjoaaDoor
