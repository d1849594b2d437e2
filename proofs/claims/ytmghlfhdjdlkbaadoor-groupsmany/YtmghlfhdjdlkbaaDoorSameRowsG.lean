/- A contract of the law's own SameRows: are two lists of rows alike? -/
import Derived.Test.YtmghlfhdjdlkbaaDoorRPlace
namespace Go.Proofs.YtmghlfhdjdlkbaaDoor
open Go.RowKit

theorem take_same {α : Type} {a b : List α} (hl : a.length = b.length) {i : Nat} (h : i < a.length) (hp : a.take i = b.take i) (he : a[i] = b[i]'(by omega)) : a.take (i + 1) = b.take (i + 1) := by
  rw [List.take_succ_eq_append_getElem h, List.take_succ_eq_append_getElem (by omega), hp, he]
theorem not_same {α : Type} {a b : List α} {i : Nat} (h : i < a.length) (h2 : i < b.length) (he : ¬ a[i] = b[i]) : ¬ a = b := fun e => by subst e; exact he rfl
set_option maxHeartbeats 3200000 in
theorem samerowsg_any (w : World) (rs ts : List PlaceM) (S T : Nat → Prop) (A1 A2 : Option Addr) (c1 c2 : Nat) (h1 : RowsLie placeRep w S A1 rs c1) (h2 : RowsLie placeRep w T A2 ts c2) :
    Calls Tryd.prog 11 #[.slice A1 rs.length c1, .slice A2 ts.length c2] w fun e w' => ∃ (d : Bool) (m : Nat), e = .returned (.bool d) ∧ (d = true ↔ rs = ts) ∧ w' = w.drewN m := by
  have hcl := h1.2.1
  have hcl2 := h2.2.1
  have hcm := h1.2.2
  have hcm2 := h2.2.2
  unfold maxLen at hcm hcm2
  have H1 := Lib.hid h1
  have H2 := Lib.hid h2
  clear h1 h2
  by_cases hL : rs.length = ts.length
  · have HLL := Lib.hid hL
    obtain ⟨L, hrl⟩ : ∃ L, rs.length = L := ⟨_, rfl⟩
    have htl : ts.length = L := hL.symm.trans hrl
    rw [hrl] at hcl
    rw [htl] at hcl2
    rw [hrl, htl]
    have HR := Lib.hid hrl
    have HT := Lib.hid htl
    clear hL hrl htl
    go_enter Tryd.func11, Tryd.ntmps11
    go_wp2_with fail
    go_loopw [5] (fun iv wr => ∃ (i m : Nat), iv = .int .i64 i ∧ i ≤ L ∧ rs.take i = ts.take i ∧ wr = w.drewN m) (fun iv _ => L - (intOf iv).toNat)
    case atStart => exact ⟨0, 0, rfl, Nat.zero_le _, rfl, rfl⟩
    case round =>
      obtain ⟨i, m, rfl, hi, htk, rfl⟩ := hrel
      have HTK := Lib.hid htk
      clear htk
      by_cases hlt : i < L
      · have hlt1 : i < rs.length := by rw [HR.out]; exact hlt
        have hlt2 : i < ts.length := by rw [HT.out]; exact hlt
        obtain ⟨b1, o1, rfl, _, _, k0, k1⟩ := PlacesLie.at_ H1.out hlt1
        obtain ⟨b2, o2, rfl, _, _, j0, j1⟩ := PlacesLie.at_ H2.out hlt2
        have HS := Lib.hid (fun he => take_same HLL.out hlt1 HTK.out he)
        have HN := Lib.hid (fun he => not_same hlt1 hlt2 he)
        obtain ⟨t, ht⟩ : ∃ t, rs[i] = t := ⟨_, rfl⟩
        obtain ⟨u, hu⟩ : ∃ u, ts[i] = u := ⟨_, rfl⟩
        rw [ht] at k0 k1 HS HN
        rw [hu] at j0 j1 HS HN
        obtain ⟨tp, tq⟩ := t
        obtain ⟨up, us⟩ := u
        dsimp only at k0 k1 j0 j1
        have e0 : (w.drewN m).cell? ⟨b1, o1 + i * 2, none⟩ = some (.string tp) := k0
        have e1 : (w.drewN m).cell? ⟨b1, o1 + i * 2 + 1, none⟩ = some (.int .i64 tq) := k1
        have f0 : (w.drewN m).cell? ⟨b2, o2 + i * 2, none⟩ = some (.string up) := j0
        have f1 : (w.drewN m).cell? ⟨b2, o2 + i * 2 + 1, none⟩ = some (.int .i64 us) := j1
        have HW := Lib.hid (fun n => World.drewN_drewN w m n)
        clear k0 k1 j0 j1 ht hu H1 H2 hlt1 hlt2 HTK
        generalize w.drewN m = W0 at *
        by_cases hp : tp = up
        · subst hp
          have sp : (tp.toList != tp.toList) = false := by simp
          by_cases hs : tq = us
          · subst hs
            have ss : (tq != tq) = false := by simp
            have HF := Lib.hid (HS.out rfl)
            clear HS HN
            go_wp2_with fail
            go_quiet (fail)
            go_wp2
            go_roundw
            case rel => exact ⟨i + 1, m + nq, by go_num, by omega, HF.out, HW.out nq⟩
            case measure => simp [intOf]; omega
          · skip
            have ns : (tq != us) = true := by simpa using hs
            have HF : Hid (¬ rs = ts) := Lib.hid (HN.out (by intro e; injection e with e0 e1; exact hs e1))
            clear HS HN hs
            go_wp2_with fail
            go_quiet (fail)
            go_wp2
            go_ret
            exact ⟨_, _, rfl, iff_of_false Bool.false_ne_true HF.out, HW.out nq⟩
        · skip
          have np : (tp.toList != up.toList) = true := by show (!(tp.toList == up.toList)) = true; rw [name_beq, decide_eq_false hp]; rfl
          have mp : (tp.toList == up.toList) = false := by rw [name_beq]; exact decide_eq_false hp
          have HF : Hid (¬ rs = ts) := Lib.hid (HN.out (by intro e; injection e with e0 e1; exact hp e0))
          clear HS HN hp
          go_wp2_with fail
          go_quiet (fail)
          go_wp2
          go_ret
          exact ⟨_, _, rfl, iff_of_false Bool.false_ne_true HF.out, HW.out nq⟩
      · obtain rfl : i = L := by omega
        have HE : Hid (rs = ts) := Lib.hid (by
          have := HTK.out
          rw [List.take_of_length_le (by rw [HR.out]; omega), List.take_of_length_le (by rw [HT.out]; omega)] at this
          exact this)
        go_wp2
        go_ret
        exact ⟨_, m, rfl, iff_of_true rfl HE.out, rfl⟩
  · have q : ((rs.length : Int) != (ts.length : Int)) = true := by simp; omega
    have q2 : (rs.length != ts.length) = true := by simpa using hL
    have HF : Hid (¬ rs = ts) := Lib.hid (fun e => hL (by rw [e]))
    clear hL
    go_enter Tryd.func11, Tryd.ntmps11
    go_wp2_with fail
    go_ret
    exact ⟨_, 0, rfl, iff_of_false Bool.false_ne_true HF.out, rfl⟩
end Go.Proofs.YtmghlfhdjdlkbaaDoor
