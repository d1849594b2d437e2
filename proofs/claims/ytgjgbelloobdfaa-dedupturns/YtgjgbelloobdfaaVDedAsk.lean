/- The program's own table of producers: what Ask answers. -/
import Derived.Test.YtgjgbelloobdfaaVDedTab
namespace Go.Proofs.Ytgjgbelloobdfaa
open Go.RowKit

theorem Ahead.past {l : List PidM} {p : Int} : ∀ {k : Nat}, Ahead l p k → Past l p k
  | 0, _ => Past.zero l p
  | k + 1, h => by
    have hk : k < l.length := h.1
    have h1 : Ahead l p k := ⟨by omega, fun x hx => h.2 x (by rw [List.take_succ_eq_append_getElem hk]; exact List.mem_append_left _ hx)⟩
    have h2 := h.2 l[k] (by rw [List.take_succ_eq_append_getElem hk]; exact List.mem_append_right _ (List.mem_singleton.2 rfl))
    exact h1.past.next hk (by omega)
theorem Stands.between {l : List PidM} {p : Int} {k : Nat} (h : Stands l p k) (hn : ¬ ∃ h : k < l.length, l[k].pid = p) : ∀ hk : k < l.length, p < l[k].pid := fun hk => by
  have h1 := h.2 k hk (Nat.le_refl _)
  have h2 : ¬ l[k].pid = p := fun e => hn ⟨hk, e⟩
  omega
set_option maxHeartbeats 800000 in
theorem follows_any (a b : Int) (ha : -9223372036854775808 ≤ a ∧ a ≤ 9223372036854775807) (hb : -9223372036854775808 ≤ b ∧ b ≤ 9223372036854775807) (w : World) :
    Calls Try.prog 16 #[.int .i64 a, .int .i64 b] w (fun e w' => e = .returned (.bool (decide (b + 1 = a))) ∧ w = w') := by
  by_cases h1 : b < a
  · have d1 : decide (b < a) = true := decide_eq_true h1
    obtain ⟨v, hv⟩ : ∃ v, wrap64 (a - b) = v := ⟨_, rfl⟩
    have HV : Hid ((v == 1) = decide (b + 1 = a)) := Lib.hid (by
      subst hv
      rw [show (wrap64 (a - b) == 1) = decide (wrap64 (a - b) = 1) from rfl]
      refine decide_eq_decide.2 ?_
      unfold wrap64
      omega)
    clear h1 ha hb
    go_enter Try.func16, Try.ntmps16
    go_wp2
    go_ret
    exact ⟨by rw [← HV.out]; rfl, rfl⟩
  · have d1 : decide (b < a) = false := decide_eq_false h1
    have HV : Hid (decide (b + 1 = a) = false) := Lib.hid (decide_eq_false (by omega))
    clear h1 ha hb
    go_enter Try.func16, Try.ntmps16
    go_wp2
    go_ret
    exact ⟨by rw [HV.out]; rfl, rfl⟩
set_option maxHeartbeats 1600000 in
theorem pask_any {base g : Nat} {S : Nat → Prop} {w : World} {l : List PidM} (h : PTab base S w g l) (p s : Int) (_hp : -9223372036854775808 ≤ p ∧ p ≤ 9223372036854775807) (hs : -9223372036854775808 ≤ s ∧ s ≤ 9223372036854775807) :
    Calls Try.prog 9 #[.pointer (some ⟨g, 0, none⟩), .int .i64 p, .int .i64 s] w (fun e w' => e = .returned (.tuple #[.int .i64 (askP l p s).1, .int .i64 (askP l p s).2]) ∧ Below w.heap.size w w') := by
  have HF := Lib.hid (pfind_any h p)
  have HT := Lib.hid h
  have HS := Lib.hid hs
  have hfew := h.tab.few
  clear h hs
  go_enter Try.func9, Try.ntmps9
  go_wp2_with fail
  refine HF.out.mono ?_
  rintro e w2 ⟨k, hk, rfl, hb⟩
  have HB := Lib.hid hb
  have HT2 : Hid (PTab base S w2 g l) := Lib.hid (HT.out.keep (U := Nobody) (Keep.of_below hb) fun _ _ h => h)
  have HK := Lib.hid hk
  clear hb hk HF HT
  by_cases hq : ∃ h : k < l.length, l[k].pid = p
  · obtain ⟨hkl, hkp⟩ := hq
    have dq : decide (∃ h : k < l.length, l[k].pid = p) = true := decide_eq_true ⟨hkl, hkp⟩
    have HE := Lib.hid (HK.out.1.past.here hkl hkp s)
    obtain ⟨b, off, e0, _, _, g0, g1, g2⟩ := PidsLie.at_ HT2.out.rows hkl
    injection e0 with e0
    injection e0 with e1 e2
    subst e1 e2
    have hwf := HT2.out.tab.wf l[k] (List.getElem_mem hkl)
    generalize decide (∃ h : k < l.length, l[k].pid = p) = dd at *
    subst dq
    obtain ⟨m, hm⟩ : ∃ m, l[k] = m := ⟨_, rfl⟩
    rw [hm] at g1 g2 HE hwf
    obtain ⟨mp, ms, mo⟩ := m
    dsimp only at g1 g2 HE
    have hms := hwf.2.1
    dsimp only at hms
    clear hm g0 HK hkp hwf
    have hkl2 : (k : Int) < 100 := by omega
    have hkl3 : k < 100 := by omega
    have HFO := Lib.hid (fun W => follows_any s ms HS.out hms W)
    clear hms
    rw [Nat.zero_add] at g1 g2
    by_cases h1 : ms = s
    · subst h1
      have HV : Hid (askRow ⟨mp, ms, mo⟩ ms = (1, mo)) := Lib.hid (if_pos rfl)
      have b1 : (ms == ms) = true := by simp
      go_wp2_with fail
      go_quiet (fail)
      go_wp2_with fail
      go_ret2
      exact ⟨by rw [HE.out, HV.out]; rfl, below_drewN HB.out _⟩
    · have b1 : (ms == s) = false := by simpa using h1
      by_cases h2 : ms + 1 = s
      · have d2 : decide (ms + 1 = s) = true := decide_eq_true h2
        have HV : Hid (askRow ⟨mp, ms, mo⟩ s = (0, 0)) := Lib.hid (by unfold askRow; rw [if_neg h1, if_pos h2])
        rw [d2] at HFO
        clear h1 h2 d2
        go_wp2_with (go_at_call 16; refine (HFO.out _).mono ?_; rintro e w3 ⟨rfl, rfl⟩)
        go_ret2
        exact ⟨by rw [HE.out, HV.out]; rfl, HB.out⟩
      · have d2 : decide (ms + 1 = s) = false := decide_eq_false h2
        have HV : Hid (askRow ⟨mp, ms, mo⟩ s = (2, 0)) := Lib.hid (by unfold askRow; rw [if_neg h1, if_neg h2])
        rw [d2] at HFO
        clear h1 h2 d2
        go_wp2_with (go_at_call 16; refine (HFO.out _).mono ?_; rintro e w3 ⟨rfl, rfl⟩)
        go_ret2
        exact ⟨by rw [HE.out, HV.out]; rfl, HB.out⟩
  · have dq : decide (∃ h : k < l.length, l[k].pid = p) = false := decide_eq_false hq
    have HE := Lib.hid (ask_none (s := s) (has_between HT2.out.tab.sorted HK.out.1 (HK.out.between hq)))
    generalize decide (∃ h : k < l.length, l[k].pid = p) = dd at *
    subst dq
    clear hq HK
    by_cases h0 : s = 0
    · have b0 : (s == 0) = true := by simpa using h0
      have HV : Hid ((if s = 0 then ((0, 0) : Int × Int) else (2, 0)) = (0, 0)) := Lib.hid (if_pos h0)
      clear h0
      go_wp2_with fail
      go_ret2
      exact ⟨by rw [HE.out, HV.out]; rfl, HB.out⟩
    · have b0 : (s == 0) = false := by simpa using h0
      have HV : Hid ((if s = 0 then ((0, 0) : Int × Int) else (2, 0)) = (2, 0)) := Lib.hid (if_neg h0)
      clear h0
      go_wp2_with fail
      go_ret2
      exact ⟨by rw [HE.out, HV.out]; rfl, HB.out⟩
end Go.Proofs.Ytgjgbelloobdfaa
