/- A contract of the document's own SameRecords, of any two lists. -/
import Derived.Test.YtjblhfhfappmoaaRecs
import Derived.Deep.QuietTactic
import Derived.BigQuiet
namespace Go.Proofs.Ytjblhfhfappmoaa
open Go.RowKit

theorem take_same {α : Type} {a b : List α} (hl : a.length = b.length) {i : Nat} (h : i < a.length) (hp : a.take i = b.take i) (he : a[i] = b[i]'(by omega)) : a.take (i + 1) = b.take (i + 1) := by
  rw [List.take_succ_eq_append_getElem h, List.take_succ_eq_append_getElem (by omega), hp, he]
theorem not_same {α : Type} {a b : List α} {i : Nat} (h : i < a.length) (h2 : i < b.length) (he : ¬ a[i] = b[i]) : ¬ a = b := fun e => by subst e; exact he rfl
set_option maxHeartbeats 3200000 in
theorem samerecs2_any (w : World) (rs ts : List Rec) (A1 A2 : Option Addr) (c1 c2 : Nat) (h1 : RecsLie w A1 rs c1) (h2 : RecsLie w A2 ts c2) :
    Calls Try.prog 9 #[.slice A1 rs.length c1, .slice A2 ts.length c2] w fun e w' => ∃ (d : Bool) (m : Nat), e = .returned (.bool d) ∧ (d = true ↔ rs = ts) ∧ w' = w.drewN m := by
  have hcl := h1.2.1
  have hcl2 := h2.2.1
  have hcm := h1.2.2.1
  have hcm2 := h2.2.2.1
  unfold maxLen at hcm hcm2
  have H1 := Lib.hid h1
  have H2 := Lib.hid h2
  clear h1 h2
  by_cases hL : rs.length = ts.length
  · have HLL := Lib.hid hL
    obtain ⟨L, hrl⟩ : ∃ L, rs.length = L := ⟨_, rfl⟩
    have htl : ts.length = L := hL.symm.trans hrl
    rw [hrl] at hcl
    rw [htl] at hcl2
    rw [hrl, htl]
    have HR := Lib.hid hrl
    have HT := Lib.hid htl
    clear hL hrl htl
    go_enter Try.func9, Try.ntmps9
    go_wp2_with fail
    go_loopw [5] (fun iv wr => ∃ (i m : Nat), iv = .int .i64 i ∧ i ≤ L ∧ rs.take i = ts.take i ∧ wr = w.drewN m) (fun iv _ => L - (intOf iv).toNat)
    case atStart => exact ⟨0, 0, rfl, Nat.zero_le _, rfl, rfl⟩
    case round =>
      obtain ⟨i, m, rfl, hi, htk, rfl⟩ := hrel
      have HTK := Lib.hid htk
      clear htk
      by_cases hlt : i < L
      · have hlt1 : i < rs.length := by rw [HR.out]; exact hlt
        have hlt2 : i < ts.length := by rw [HT.out]; exact hlt
        obtain ⟨b1, o1, rfl, _, k1⟩ := H1.out.more hlt1
        obtain ⟨b2, o2, rfl, _, k2⟩ := H2.out.more hlt2
        have e1 : RecAt (w.drewN m) b1 (o1 + i * 5) rs[i] := k1
        have e2 : RecAt (w.drewN m) b2 (o2 + i * 5) ts[i] := k2
        have HS := Lib.hid (fun he => take_same HLL.out hlt1 HTK.out he)
        have HN := Lib.hid (fun he => not_same hlt1 hlt2 he)
        obtain ⟨t, ht⟩ : ∃ t, rs[i] = t := ⟨_, rfl⟩
        obtain ⟨u, hu⟩ : ∃ u, ts[i] = u := ⟨_, rfl⟩
        rw [ht] at e1 HS HN
        rw [hu] at e2 HS HN
        obtain ⟨to, tt, tk, tv, td⟩ := t
        obtain ⟨uo, ut, uk, uv, ud⟩ := u
        obtain ⟨a0, a1, a2, a3, a4⟩ := e1
        obtain ⟨d0, d1, d2, d3, d4⟩ := e2
        dsimp only at a0 a1 a2 a3 a4 d0 d1 d2 d3 d4
        have HW := Lib.hid (fun n => World.drewN_drewN w m n)
        clear k1 k2 ht hu H1 H2 hlt1 hlt2 HTK
        generalize w.drewN m = W0 at *
        by_cases ho : to = uo
        · subst ho
          have so : (to != to) = false := by simp
          by_cases ht : tt = ut
          · subst ht
            have st : (tt != tt) = false := by simp
            by_cases hk : tk = uk
            · subst hk
              have sk : (tk.toList != tk.toList) = false := by simp
              by_cases hv : tv = uv
              · subst hv
                have sv : (tv.toList != tv.toList) = false := by simp
                by_cases hd : td = ud
                · subst hd
                  have sd : (td != td) = false := by simp
                  have HF := Lib.hid (HS.out rfl)
                  clear HS HN
                  go_wp2_with fail
                  go_quiet (fail)
                  go_wp2
                  go_roundw
                  case rel => exact ⟨i + 1, m + nq, by go_num, by omega, HF.out, HW.out nq⟩
                  case measure => simp [intOf]; omega
                · skip
                  have nd : (td == ud) = false := by simpa using hd
                  have HF : Hid (¬ rs = ts) := Lib.hid (HN.out (by intro e; injection e with e0 e1 e2 e3 e4; exact hd e4))
                  clear HS HN hd
                  go_wp2_with fail
                  go_quiet (fail)
                  go_wp2
                  go_ret
                  exact ⟨_, _, rfl, iff_of_false Bool.false_ne_true HF.out, HW.out nq⟩
              · skip
                have nv : (tv.toList == uv.toList) = false := text_ne hv
                have HF : Hid (¬ rs = ts) := Lib.hid (HN.out (by intro e; injection e with e0 e1 e2 e3 e4; exact hv e3))
                clear HS HN hv
                go_wp2_with fail
                go_quiet (fail)
                go_wp2
                go_ret
                exact ⟨_, _, rfl, iff_of_false Bool.false_ne_true HF.out, HW.out nq⟩
            · skip
              have nk : (tk.toList == uk.toList) = false := text_ne hk
              have HF : Hid (¬ rs = ts) := Lib.hid (HN.out (by intro e; injection e with e0 e1 e2 e3 e4; exact hk e2))
              clear HS HN hk
              go_wp2_with fail
              go_quiet (fail)
              go_wp2
              go_ret
              exact ⟨_, _, rfl, iff_of_false Bool.false_ne_true HF.out, HW.out nq⟩
          · skip
            have nt : (tt == ut) = false := by simpa using ht
            have HF : Hid (¬ rs = ts) := Lib.hid (HN.out (by intro e; injection e with e0 e1 e2 e3 e4; exact ht e1))
            clear HS HN ht
            go_wp2_with fail
            go_quiet (fail)
            go_wp2
            go_ret
            exact ⟨_, _, rfl, iff_of_false Bool.false_ne_true HF.out, HW.out nq⟩
        · skip
          have no : (to == uo) = false := by simpa using ho
          have HF : Hid (¬ rs = ts) := Lib.hid (HN.out (by intro e; injection e with e0 e1 e2 e3 e4; exact ho e0))
          clear HS HN ho
          go_wp2_with fail
          go_quiet (fail)
          go_wp2
          go_ret
          exact ⟨_, _, rfl, iff_of_false Bool.false_ne_true HF.out, HW.out nq⟩
      · obtain rfl : i = L := by omega
        have HE : Hid (rs = ts) := Lib.hid (by
          have := HTK.out
          rw [List.take_of_length_le (by rw [HR.out]; omega), List.take_of_length_le (by rw [HT.out]; omega)] at this
          exact this)
        go_wp2
        go_ret
        exact ⟨_, m, rfl, iff_of_true rfl HE.out, rfl⟩
  · have q : ((rs.length : Int) != (ts.length : Int)) = true := by simp; omega
    have q2 : (rs.length != ts.length) = true := by simpa using hL
    have HF : Hid (¬ rs = ts) := Lib.hid (fun e => hL (by rw [e]))
    clear hL
    go_enter Try.func9, Try.ntmps9
    go_wp2_with fail
    go_ret
    exact ⟨_, 0, rfl, iff_of_false Bool.false_ne_true HF.out, rfl⟩
end Go.Proofs.Ytjblhfhfappmoaa
