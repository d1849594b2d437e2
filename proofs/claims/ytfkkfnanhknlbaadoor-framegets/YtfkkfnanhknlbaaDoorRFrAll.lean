/- A contract of the document's own AllFrames. -/
import Derived.Test.YtfkkfnanhknlbaaDoorRFrGet
import Derived.Test.YtfkkfnanhknlbaaDoorVFrAll
namespace Go.Proofs.YtfkkfnanhknlbaaDoor
open Go.RowKit

set_option maxHeartbeats 1600000 in
theorem reffall_any (A : Option Addr) (xs : List Int) (c : Nat) (w : World) (hl : Lies .u8 w w.heap.size A xs) (hby : IsBytes xs) (hc : xs.length ≤ c) (hcm : c ≤ maxLen) (hxl : xs.length ≤ 549755813888) :
    Calls Tryd.prog 14 #[.slice A xs.length c] w (TellsAll xs w) := by
  go_enter Tryd.func14, Tryd.ntmps14
  go_wp2_with fail
  go_loopw [4, 5] (fun v av wr => ∃ (ps : List (List Int)) (k : Nat), av = .int .i64 k ∧ k ≤ xs.length ∧ ps.length ≤ k ∧ AllAt xs ps k ∧ OwnP wr w.heap.size v ps ∧ Below w.heap.size w wr)
    (fun _ av _ => xs.length - (intOf av).toNat)
  case atStart => exact ⟨[], 0, rfl, Nat.zero_le _, Nat.le_refl _, AllAt.start xs, OwnP.nil, Below.refl _ _⟩
  case round =>
    obtain ⟨ps, k, rfl, hk, hpk, hat, hown, hbel⟩ := hrel
    by_cases hlt : k < xs.length
    · obtain ⟨b, off, rfl, hbl, _⟩ := hl.at_ hlt
      have hck : ¬ c = k := by omega
      have hbs := hbel.size
      have hl2 : Lies .u8 wr wr.heap.size (some ⟨b, off + k, none⟩) (xs.drop k) := by
        have := ((hl.below hbel).more hbs).cut (n := k) hc
        rw [if_neg hck] at this
        simpa [add_lit] using this
      have hby2 : IsBytes (xs.drop k) := fun q hq => hby q (List.mem_of_mem_drop hq)
      have hdl : (xs.drop k).length = xs.length - k := List.length_drop ..
      have hg := reffget_any (some ⟨b, off + k, none⟩) (xs.drop k) (c - k) wr hl2 hby2 (by omega) (by omega)
      rw [hdl] at hg
      obtain ⟨p, m, e, hr⟩ : ∃ p m e, getFr (xs.drop k) = (p, m, e) := ⟨_, _, _, rfl⟩
      rw [hr] at hg
      have HG := Lib.hid hg
      have HR := Lib.hid hr
      clear hg hr hl2 hdl
      go_wp2_with fail
      refine HG.out.mono ?_
      rintro e' w2 ⟨v2, rfl, hown2, hbel2⟩
      clear HG
      dsimp only at hown2
      have hP := hown.below hbel2
      have hb2 := hbel.trans (hbel2.mono hbs)
      clear hown hbel
      by_cases he : e = 0
      · subst he
        obtain ⟨n, rfl, hn5, hnl, hpl, hpb⟩ := getFr_nat hby2 HR.out
        have hst := Lib.hid (hat.next hlt HR.out)
        have hkn : k + n ≤ xs.length := by rw [List.length_drop] at hnl; omega
        have ho2 := hown2.lower hbs
        obtain ⟨A2, c2, rfl, _, _⟩ := ho2.form
        have hpk2 : ps.length + 1 ≤ 1099511627776 := by omega
        have hbs2 := hb2.size
        clear hown2 hat hpl hpb hby2 HR
        go_wp2_with (at_builtin; refine wpList_append_piece rfl (.tmp 23) (.tmp 25) rfl w.heap.size _ ps rfl w2 (.slice A2 p.length c2) p rfl hP ho2 rfl hpk2 hbs2 ?_; intro v3 w3 hP3 hbel3)
        go_roundw
        case rel => exact ⟨ps ++ [p], k + n, rfl, hkn, by simp; omega, hst.out, hP3, hb2.trans hbel3⟩
        case measure => simp [intOf]; omega
      · have hne : (e != 0) = true := by simp [he]
        have hfin := Lib.hid (hat.stop (by rw [HR.out]; exact he))
        clear he hat hown2 HR
        go_wp2
        go_ret2
        exact ⟨_, ps, k, rfl, hfin.out, hP, hb2⟩
    · have hfin := Lib.hid (hat.over (by omega))
      clear hat
      go_wp2
      go_ret2
      exact ⟨_, ps, k, rfl, hfin.out, hown, hbel⟩
end Go.Proofs.YtfkkfnanhknlbaaDoor
