/- A contract of the document's own Right of commands. -/
import Derived.Test.YtiglignfjegilaaDoorRCmd
namespace Go.Proofs.YtiglignfjegilaaDoor
open Go.RowKit

set_option maxRecDepth 100000 in
set_option maxHeartbeats 4000000 in
theorem refright10_any (w : World) (A : Option Addr) (cap : Nat) (c : Cmd) (h : RecsLie w A c.recs cap) (hg : c.group.size ≤ maxLen) :
    Calls Tryd.prog 11 #[cmdV (.slice A c.recs.length cap) c] w (fun e w' => e = .returned (.bool (decide c.right)) ∧ Below w.heap.size w w') := by
  suffices hs : Calls Tryd.prog 11 #[cmdV (.slice A c.recs.length cap) c] w (fun e w' => ∃ d, e = .returned (.bool d) ∧ (d = true ↔ c.right) ∧ Below w.heap.size w w') by
    refine hs.mono ?_
    rintro e w' ⟨d, rfl, hd, hb⟩
    exact ⟨by rw [bool_of_iff hd], hb⟩
  have hcl := h.2.1
  have hcm := h.2.2.1
  have HB1 := Lib.hid ((Below.refl w.heap.size w).alloc (Nat.le_refl _) (cmdO (.slice A c.recs.length cap) c))
  have HB2 := Lib.hid (HB1.out.alloc (by simp) (cmdO (.slice A c.recs.length cap) c))
  have HP := Lib.hid (refplain_any A cap c (w.alloc (cmdO (.slice A c.recs.length cap) c)) hcl hcm)
  have HL := Lib.hid (h.below HB2.out (Nat.le_refl _))
  have HV := Lib.hid (fun W => refvalid_any c.group W hg)
  unfold maxLen at hcm
  clear h hg
  by_cases hpl : c.plain
  · have HPL := Lib.hid hpl
    rw [decide_eq_true hpl] at HP
    clear hpl
    obtain ⟨kind, pid, seq, recs, group, off, max, now, sum, seg, keep, age, grace⟩ := c
    unfold cmdO at HB1 HB2 HP HL
    unfold cmdV
    dsimp only at HB1 HB2 HP HL HV hcl ⊢
    obtain ⟨n, hn⟩ : ∃ n, recs.length = n := ⟨_, rfl⟩
    rw [hn] at HB1 HB2 HP HL hcl ⊢
    have HN := Lib.hid hn
    clear hn
    rcases Cmd.kinds kind with rfl | rfl | rfl | rfl | rfl | rfl | rfl | rfl | rfl | rfl | rfl | rfl | hk
    · go_enter Tryd.func11, Tryd.ntmps11
      go_wp2_with (go_at_call 21; refine HP.out.mono ?_; rintro e w' ⟨rfl, rfl⟩; refine Hid.out ?_)
      refine Lib.hid ?_
      have HF : Hid ((⟨0, pid, seq, recs, group, off, max, now, sum, seg, keep, age, grace⟩ : Cmd).right) := Lib.hid (by have hp := HPL.out; unfold Cmd.right Cmd.fits; simp [hp])
      go_wp2_with (first | (go_at_call 22; refine (refwithin_any _ _ _).mono ?_; rintro e w' ⟨rfl, rfl⟩) | (go_at_call 25; refine (reftime_any _ _).mono ?_; rintro e w' ⟨rfl, rfl⟩) | (go_at_call 24; refine (HV.out _).mono ?_; rintro e w' ⟨rfl, rfl⟩))
      go_ret
      exact ⟨_, rfl, iff_of_true rfl HF.out, HB2.out⟩
    · go_enter Tryd.func11, Tryd.ntmps11
      go_wp2_with (go_at_call 21; refine HP.out.mono ?_; rintro e w' ⟨rfl, rfl⟩; refine Hid.out ?_)
      refine Lib.hid ?_
      go_upto_region 9 with fail
      go_cut [46] (fun s wx => ∃ d, s = .bool d ∧ (d = true ↔ (¬ within pid 1099511627776 ∨ ¬ within seq 1099511627776 ∨ (pid = 0 ∧ seq ≠ 0) ∨ n < 1 ∨ 50 < n)) ∧ wx = (w.alloc (.cells #[.int .i64 1, .int .i64 pid, .int .i64 seq, .slice A n cap, .string group, .int .i64 off, .int .i64 max, .int .i64 now, .int .u32 sum, .int .i64 seg, .int .i64 keep, .int .i64 age, .int .i64 grace] 27)).alloc (.cells #[.int .i64 1, .int .i64 pid, .int .i64 seq, .slice A n cap, .string group, .int .i64 off, .int .i64 max, .int .i64 now, .int .u32 sum, .int .i64 seg, .int .i64 keep, .int .i64 age, .int .i64 grace] 27))
      case first =>
        by_cases h_wpid : within pid 1099511627776
        · have q_h_wpid : decide (within pid 1099511627776) = true := decide_eq_true h_wpid
          by_cases h_wseq : within seq 1099511627776
          · have q_h_wseq : decide (within seq 1099511627776) = true := decide_eq_true h_wseq
            by_cases h_p0 : pid = 0
            · have q_h_p0 : (pid == 0) = true := by simp [h_p0]
              by_cases h_s0 : seq ≠ 0
              · have q_h_s0 : (seq != 0) = true := by simpa using h_s0
                have HF : Hid ((¬ within pid 1099511627776 ∨ ¬ within seq 1099511627776 ∨ (pid = 0 ∧ seq ≠ 0) ∨ n < 1 ∨ 50 < n)) := Lib.hid (.inr (.inr (.inl ⟨h_p0, h_s0⟩)))
                clear h_wpid h_wseq h_p0 h_s0
                go_wp2_with (first | (go_at_call 22; refine (refwithin_any _ _ _).mono ?_; rintro e w' ⟨rfl, rfl⟩) | (go_at_call 25; refine (reftime_any _ _).mono ?_; rintro e w' ⟨rfl, rfl⟩) | (go_at_call 24; refine (HV.out _).mono ?_; rintro e w' ⟨rfl, rfl⟩))
                go_meet
                exact ⟨_, rfl, iff_of_true rfl HF.out, rfl⟩
              · have q_h_s0 : (seq != 0) = false := by simpa using h_s0
                by_cases h_n1 : n < 1
                · have q_h_n1 : decide ((n : Int) < 1) = true := decide_eq_true (by omega); have r_h_n1 : decide (n < 1) = true := decide_eq_true h_n1
                  have HF : Hid ((¬ within pid 1099511627776 ∨ ¬ within seq 1099511627776 ∨ (pid = 0 ∧ seq ≠ 0) ∨ n < 1 ∨ 50 < n)) := Lib.hid (.inr (.inr (.inr (.inl h_n1))))
                  clear h_wpid h_wseq h_p0 h_s0 h_n1
                  go_wp2_with (first | (go_at_call 22; refine (refwithin_any _ _ _).mono ?_; rintro e w' ⟨rfl, rfl⟩) | (go_at_call 25; refine (reftime_any _ _).mono ?_; rintro e w' ⟨rfl, rfl⟩) | (go_at_call 24; refine (HV.out _).mono ?_; rintro e w' ⟨rfl, rfl⟩))
                  go_meet
                  exact ⟨_, rfl, iff_of_true rfl HF.out, rfl⟩
                · have q_h_n1 : decide ((n : Int) < 1) = false := decide_eq_false (by omega); have r_h_n1 : decide (n < 1) = false := decide_eq_false h_n1
                  by_cases h_n50 : 50 < n
                  · have q_h_n50 : decide ((50 : Int) < (n : Int)) = true := decide_eq_true (by omega); have r_h_n50 : decide (50 < n) = true := decide_eq_true h_n50
                    have HF : Hid ((¬ within pid 1099511627776 ∨ ¬ within seq 1099511627776 ∨ (pid = 0 ∧ seq ≠ 0) ∨ n < 1 ∨ 50 < n)) := Lib.hid (.inr (.inr (.inr (.inr h_n50))))
                    clear h_wpid h_wseq h_p0 h_s0 h_n1 h_n50
                    go_wp2_with (first | (go_at_call 22; refine (refwithin_any _ _ _).mono ?_; rintro e w' ⟨rfl, rfl⟩) | (go_at_call 25; refine (reftime_any _ _).mono ?_; rintro e w' ⟨rfl, rfl⟩) | (go_at_call 24; refine (HV.out _).mono ?_; rintro e w' ⟨rfl, rfl⟩))
                    go_meet
                    exact ⟨_, rfl, iff_of_true rfl HF.out, rfl⟩
                  · have q_h_n50 : decide ((50 : Int) < (n : Int)) = false := decide_eq_false (by omega); have r_h_n50 : decide (50 < n) = false := decide_eq_false h_n50
                    have HF : Hid (¬ (¬ within pid 1099511627776 ∨ ¬ within seq 1099511627776 ∨ (pid = 0 ∧ seq ≠ 0) ∨ n < 1 ∨ 50 < n)) := Lib.hid (fun k => k.elim (fun k => k h_wpid) (fun k => k.elim (fun k => k h_wseq) (fun k => k.elim (fun k => h_s0 k.2) (fun k => k.elim h_n1 h_n50))))
                    clear h_wpid h_wseq h_p0 h_s0 h_n1 h_n50
                    go_wp2_with (first | (go_at_call 22; refine (refwithin_any _ _ _).mono ?_; rintro e w' ⟨rfl, rfl⟩) | (go_at_call 25; refine (reftime_any _ _).mono ?_; rintro e w' ⟨rfl, rfl⟩) | (go_at_call 24; refine (HV.out _).mono ?_; rintro e w' ⟨rfl, rfl⟩))
                    go_meet
                    exact ⟨_, rfl, iff_of_false Bool.false_ne_true HF.out, rfl⟩
            · have q_h_p0 : (pid == 0) = false := by simp [h_p0]
              by_cases h_n1 : n < 1
              · have q_h_n1 : decide ((n : Int) < 1) = true := decide_eq_true (by omega); have r_h_n1 : decide (n < 1) = true := decide_eq_true h_n1
                have HF : Hid ((¬ within pid 1099511627776 ∨ ¬ within seq 1099511627776 ∨ (pid = 0 ∧ seq ≠ 0) ∨ n < 1 ∨ 50 < n)) := Lib.hid (.inr (.inr (.inr (.inl h_n1))))
                clear h_wpid h_wseq h_p0 h_n1
                go_wp2_with (first | (go_at_call 22; refine (refwithin_any _ _ _).mono ?_; rintro e w' ⟨rfl, rfl⟩) | (go_at_call 25; refine (reftime_any _ _).mono ?_; rintro e w' ⟨rfl, rfl⟩) | (go_at_call 24; refine (HV.out _).mono ?_; rintro e w' ⟨rfl, rfl⟩))
                go_meet
                exact ⟨_, rfl, iff_of_true rfl HF.out, rfl⟩
              · have q_h_n1 : decide ((n : Int) < 1) = false := decide_eq_false (by omega); have r_h_n1 : decide (n < 1) = false := decide_eq_false h_n1
                by_cases h_n50 : 50 < n
                · have q_h_n50 : decide ((50 : Int) < (n : Int)) = true := decide_eq_true (by omega); have r_h_n50 : decide (50 < n) = true := decide_eq_true h_n50
                  have HF : Hid ((¬ within pid 1099511627776 ∨ ¬ within seq 1099511627776 ∨ (pid = 0 ∧ seq ≠ 0) ∨ n < 1 ∨ 50 < n)) := Lib.hid (.inr (.inr (.inr (.inr h_n50))))
                  clear h_wpid h_wseq h_p0 h_n1 h_n50
                  go_wp2_with (first | (go_at_call 22; refine (refwithin_any _ _ _).mono ?_; rintro e w' ⟨rfl, rfl⟩) | (go_at_call 25; refine (reftime_any _ _).mono ?_; rintro e w' ⟨rfl, rfl⟩) | (go_at_call 24; refine (HV.out _).mono ?_; rintro e w' ⟨rfl, rfl⟩))
                  go_meet
                  exact ⟨_, rfl, iff_of_true rfl HF.out, rfl⟩
                · have q_h_n50 : decide ((50 : Int) < (n : Int)) = false := decide_eq_false (by omega); have r_h_n50 : decide (50 < n) = false := decide_eq_false h_n50
                  have HF : Hid (¬ (¬ within pid 1099511627776 ∨ ¬ within seq 1099511627776 ∨ (pid = 0 ∧ seq ≠ 0) ∨ n < 1 ∨ 50 < n)) := Lib.hid (fun k => k.elim (fun k => k h_wpid) (fun k => k.elim (fun k => k h_wseq) (fun k => k.elim (fun k => h_p0 k.1) (fun k => k.elim h_n1 h_n50))))
                  clear h_wpid h_wseq h_p0 h_n1 h_n50
                  go_wp2_with (first | (go_at_call 22; refine (refwithin_any _ _ _).mono ?_; rintro e w' ⟨rfl, rfl⟩) | (go_at_call 25; refine (reftime_any _ _).mono ?_; rintro e w' ⟨rfl, rfl⟩) | (go_at_call 24; refine (HV.out _).mono ?_; rintro e w' ⟨rfl, rfl⟩))
                  go_meet
                  exact ⟨_, rfl, iff_of_false Bool.false_ne_true HF.out, rfl⟩
          · have q_h_wseq : decide (within seq 1099511627776) = false := decide_eq_false h_wseq
            have HF : Hid ((¬ within pid 1099511627776 ∨ ¬ within seq 1099511627776 ∨ (pid = 0 ∧ seq ≠ 0) ∨ n < 1 ∨ 50 < n)) := Lib.hid (.inr (.inl h_wseq))
            clear h_wpid h_wseq
            go_wp2_with (first | (go_at_call 22; refine (refwithin_any _ _ _).mono ?_; rintro e w' ⟨rfl, rfl⟩) | (go_at_call 25; refine (reftime_any _ _).mono ?_; rintro e w' ⟨rfl, rfl⟩) | (go_at_call 24; refine (HV.out _).mono ?_; rintro e w' ⟨rfl, rfl⟩))
            go_meet
            exact ⟨_, rfl, iff_of_true rfl HF.out, rfl⟩
        · have q_h_wpid : decide (within pid 1099511627776) = false := decide_eq_false h_wpid
          have HF : Hid ((¬ within pid 1099511627776 ∨ ¬ within seq 1099511627776 ∨ (pid = 0 ∧ seq ≠ 0) ∨ n < 1 ∨ 50 < n)) := Lib.hid (.inl h_wpid)
          clear h_wpid
          go_wp2_with (first | (go_at_call 22; refine (refwithin_any _ _ _).mono ?_; rintro e w' ⟨rfl, rfl⟩) | (go_at_call 25; refine (reftime_any _ _).mono ?_; rintro e w' ⟨rfl, rfl⟩) | (go_at_call 24; refine (HV.out _).mono ?_; rintro e w' ⟨rfl, rfl⟩))
          go_meet
          exact ⟨_, rfl, iff_of_true rfl HF.out, rfl⟩
      case rest =>
        obtain ⟨bad, rfl, he, hwx⟩ := hcut
        have HE := Lib.hid he
        have HB3 : Hid (Below w.heap.size w wc) := Lib.hid (by rw [hwx]; exact HB2.out)
        have HL3 : Hid (RecsLie wc A recs cap) := Lib.hid (by rw [hwx]; exact HL.out)
        have HG3 : Hid (wc.heap[w.heap.size]? = some (.cells #[.int .i64 1, .int .i64 pid, .int .i64 seq, .slice A n cap, .string group, .int .i64 off, .int .i64 max, .int .i64 now, .int .u32 sum, .int .i64 seg, .int .i64 keep, .int .i64 age, .int .i64 grace] 27)) := Lib.hid (by rw [hwx, Below.heap_alloc _ _ _ (by simp), heap_alloc_new])
        clear he hwx
        cases bad with
        | true =>
          have HF : Hid (¬ (⟨1, pid, seq, recs, group, off, max, now, sum, seg, keep, age, grace⟩ : Cmd).right) := Lib.hid (by
            have h1 := HE.out.1 rfl
            have h2 := HN.out
            rintro ⟨_, h⟩
            rcases h with h | h | h | h | h | h | h | h | h
            · dsimp only at h; omega
            · obtain ⟨_, k1, k2, k3, k4, k5, _⟩ := h
              dsimp only at k1 k2 k3 k4 k5
              rcases h1 with h1 | h1 | h1 | h1 | h1
              · exact h1 k1
              · exact h1 k2
              · exact h1.2 (k3 h1.1)
              · omega
              · omega
            all_goals (dsimp only at h; omega))
          clear HE
          go_wp2_with fail
          go_ret
          exact ⟨_, rfl, iff_of_false Bool.false_ne_true HF.out, HB3.out⟩
        | false =>
          have HE2 : Hid (¬ (¬ within pid 1099511627776 ∨ ¬ within seq 1099511627776 ∨ (pid = 0 ∧ seq ≠ 0) ∨ n < 1 ∨ 50 < n)) := Lib.hid fun h => Bool.false_ne_true (HE.out.2 h)
          clear HE
          go_wp2_with fail
          go_loopw [3] (fun iv wr => ∃ i : Nat, iv = .int .i64 i ∧ i ≤ n ∧ (∀ j (h : j < recs.length), j < i → recs[j].off = 0 ∧ recs[j].right) ∧ Below wc.heap.size wc wr) (fun iv _ => n - (intOf iv).toNat)
          case atStart => exact ⟨0, rfl, Nat.zero_le _, fun j _ h => absurd h (by omega), Below.refl _ _⟩
          case round =>
            obtain ⟨i, rfl, hi, hall, hbel⟩ := hrel
            have HALL := Lib.hid hall
            have HBE := Lib.hid hbel
            obtain ⟨c0, c1, c2, c3, c4, c5, c6, c7, c8, c9, c10, c11, c12⟩ := cmd_at (v := .slice A n cap) (c := ⟨1, pid, seq, recs, group, off, max, now, sum, seg, keep, age, grace⟩) (block_keep HG3.out hbel)
            clear c0 c1 c2 c4 c5 c6 c7 c8 c9 c10 c11 c12 hall
            by_cases hlt : i < n
            · have hlt2 : i < recs.length := by rw [HN.out]; exact hlt
              obtain ⟨b, offr, rfl, hbl, hat⟩ := HL3.out.more hlt2
              obtain ⟨g0, g1, g2, g3, g4⟩ := hat.keep (w' := wr) fun j => hbel.cell hbl
              have HNO := Lib.hid (fun (h : ¬ (recs[i].off = 0 ∧ recs[i].right)) => (show ¬ (⟨1, pid, seq, recs, group, off, max, now, sum, seg, keep, age, grace⟩ : Cmd).right from by
                rintro ⟨_, hf⟩
                rcases hf with hf | hf | hf | hf | hf | hf | hf | hf | hf
                · dsimp only at hf; omega
                · exact h (hf.2.2.2.2.2.2 _ (List.getElem_mem hlt2))
                all_goals (dsimp only at hf; omega)))
              have HYES := Lib.hid (fun (h : recs[i].off = 0 ∧ recs[i].right) => (show ∀ j (h : j < recs.length), j < i + 1 → recs[j].off = 0 ∧ recs[j].right from by
                intro j hj hji
                by_cases e : j = i
                · subst e; exact h
                · exact HALL.out j hj (by omega)))
              obtain ⟨x, hx⟩ : ∃ x, recs[i] = x := ⟨_, rfl⟩
              rw [hx] at g0 g1 g2 g3 g4 HNO HYES
              obtain ⟨xo, xt, xk, xv, xd⟩ := x
              dsimp only at g0 g1 g2 g3 g4 HNO HYES
              have HRT := Lib.hid (fun W => refright_any ⟨xo, xt, xk, xv, xd⟩ W)
              unfold recV at HRT
              dsimp only at HRT
              clear hx hat hbl hbel
              by_cases hz : xo = 0
              · have q1 : (xo == 0) = true := by simp [hz]
                have q2 : (xo != 0) = false := by simp [hz]
                have HZ := Lib.hid hz
                clear hz
                by_cases hr : (⟨xo, xt, xk, xv, xd⟩ : Rec).right
                · rw [decide_eq_true hr] at HRT
                  have HA := Lib.hid (HYES.out ⟨HZ.out, hr⟩)
                  clear HNO HYES hr
                  go_wp2_with (go_at_call 23; refine (HRT.out _).mono ?_; rintro e w5 ⟨rfl, hb5⟩; have HB5 := Lib.hid (HBE.out.trans (hb5.mono HBE.out.size)); clear hb5)
                  go_roundw
                  case rel => exact ⟨i + 1, by go_num, hlt, HA.out, HB5.out⟩
                  case measure => simp [intOf]; omega
                · rw [decide_eq_false hr] at HRT
                  have HF := Lib.hid (HNO.out fun h => hr h.2)
                  clear HNO HYES hr
                  go_wp2_with (go_at_call 23; refine (HRT.out _).mono ?_; rintro e w5 ⟨rfl, hb5⟩; have HB5 := Lib.hid (HBE.out.trans (hb5.mono HBE.out.size)); clear hb5)
                  go_ret
                  exact ⟨_, rfl, iff_of_false Bool.false_ne_true HF.out, HB3.out.trans (HB5.out.mono HB3.out.size)⟩
              · have q1 : (xo == 0) = false := by simp [hz]
                have q2 : (xo != 0) = true := by simp [hz]
                have HF := Lib.hid (HNO.out fun h => hz h.1)
                clear HNO HYES hz
                go_wp2_with fail
                go_ret
                exact ⟨_, rfl, iff_of_false Bool.false_ne_true HF.out, HB3.out.trans (HBE.out.mono HB3.out.size)⟩
            · obtain rfl : i = n := by omega
              have HF : Hid ((⟨1, pid, seq, recs, group, off, max, now, sum, seg, keep, age, grace⟩ : Cmd).right) := Lib.hid (by
                have h1 := HE2.out
                have h2 := HN.out
                refine ⟨HPL.out, .inr (.inl ⟨rfl, ?_, ?_, ?_, ?_, ?_, ?_⟩)⟩
                · exact Classical.byContradiction fun h => h1 (.inl h)
                · exact Classical.byContradiction fun h => h1 (.inr (.inl h))
                · exact fun hp => Classical.byContradiction fun h => h1 (.inr (.inr (.inl ⟨hp, h⟩)))
                · dsimp only; omega
                · dsimp only; omega
                · intro r hr
                  obtain ⟨j, hj, rfl⟩ := List.getElem_of_mem hr
                  exact HALL.out j hj (by dsimp only at hj; omega))
              clear hbel
              go_wp2_with fail
              go_ret
              exact ⟨_, rfl, iff_of_true rfl HF.out, HB3.out.trans (HBE.out.mono HB3.out.size)⟩
    · go_enter Tryd.func11, Tryd.ntmps11
      go_wp2_with (go_at_call 21; refine HP.out.mono ?_; rintro e w' ⟨rfl, rfl⟩; refine Hid.out ?_)
      refine Lib.hid ?_
      by_cases h_woff : within off 1125899906842624
      · have q_h_woff : decide (within off 1125899906842624) = true := decide_eq_true h_woff
        by_cases h_max1 : 1 ≤ max
        · have q_h_max1 : decide (1 ≤ max) = true := decide_eq_true h_max1
          by_cases h_max100 : max ≤ 100
          · have q_h_max100 : decide (max ≤ 100) = true := decide_eq_true h_max100
            have HF : Hid ((⟨2, pid, seq, recs, group, off, max, now, sum, seg, keep, age, grace⟩ : Cmd).right) := Lib.hid (by have hp := HPL.out; unfold Cmd.right Cmd.fits; simp [hp, h_woff, h_max1, h_max100])
            clear h_woff h_max1 h_max100
            go_wp2_with (first | (go_at_call 22; refine (refwithin_any _ _ _).mono ?_; rintro e w' ⟨rfl, rfl⟩) | (go_at_call 25; refine (reftime_any _ _).mono ?_; rintro e w' ⟨rfl, rfl⟩) | (go_at_call 24; refine (HV.out _).mono ?_; rintro e w' ⟨rfl, rfl⟩))
            go_ret
            exact ⟨_, rfl, iff_of_true rfl HF.out, HB2.out⟩
          · have q_h_max100 : decide (max ≤ 100) = false := decide_eq_false h_max100
            have HF : Hid (¬ (⟨2, pid, seq, recs, group, off, max, now, sum, seg, keep, age, grace⟩ : Cmd).right) := Lib.hid (by have hp := HPL.out; unfold Cmd.right Cmd.fits; simp [hp, h_woff, h_max1, h_max100])
            clear h_woff h_max1 h_max100
            go_wp2_with (first | (go_at_call 22; refine (refwithin_any _ _ _).mono ?_; rintro e w' ⟨rfl, rfl⟩) | (go_at_call 25; refine (reftime_any _ _).mono ?_; rintro e w' ⟨rfl, rfl⟩) | (go_at_call 24; refine (HV.out _).mono ?_; rintro e w' ⟨rfl, rfl⟩))
            go_ret
            exact ⟨_, rfl, iff_of_false Bool.false_ne_true HF.out, HB2.out⟩
        · have q_h_max1 : decide (1 ≤ max) = false := decide_eq_false h_max1
          have HF : Hid (¬ (⟨2, pid, seq, recs, group, off, max, now, sum, seg, keep, age, grace⟩ : Cmd).right) := Lib.hid (by have hp := HPL.out; unfold Cmd.right Cmd.fits; simp [hp, h_woff, h_max1])
          clear h_woff h_max1
          go_wp2_with (first | (go_at_call 22; refine (refwithin_any _ _ _).mono ?_; rintro e w' ⟨rfl, rfl⟩) | (go_at_call 25; refine (reftime_any _ _).mono ?_; rintro e w' ⟨rfl, rfl⟩) | (go_at_call 24; refine (HV.out _).mono ?_; rintro e w' ⟨rfl, rfl⟩))
          go_ret
          exact ⟨_, rfl, iff_of_false Bool.false_ne_true HF.out, HB2.out⟩
      · have q_h_woff : decide (within off 1125899906842624) = false := decide_eq_false h_woff
        have HF : Hid (¬ (⟨2, pid, seq, recs, group, off, max, now, sum, seg, keep, age, grace⟩ : Cmd).right) := Lib.hid (by have hp := HPL.out; unfold Cmd.right Cmd.fits; simp [hp, h_woff])
        clear h_woff
        go_wp2_with (first | (go_at_call 22; refine (refwithin_any _ _ _).mono ?_; rintro e w' ⟨rfl, rfl⟩) | (go_at_call 25; refine (reftime_any _ _).mono ?_; rintro e w' ⟨rfl, rfl⟩) | (go_at_call 24; refine (HV.out _).mono ?_; rintro e w' ⟨rfl, rfl⟩))
        go_ret
        exact ⟨_, rfl, iff_of_false Bool.false_ne_true HF.out, HB2.out⟩
    · go_enter Tryd.func11, Tryd.ntmps11
      go_wp2_with (go_at_call 21; refine HP.out.mono ?_; rintro e w' ⟨rfl, rfl⟩; refine Hid.out ?_)
      refine Lib.hid ?_
      by_cases h_woff : within off 1125899906842624
      · have q_h_woff : decide (within off 1125899906842624) = true := decide_eq_true h_woff
        by_cases h_val : validS group = true
        · have q_h_val : validS group = true := h_val
          have HF : Hid ((⟨3, pid, seq, recs, group, off, max, now, sum, seg, keep, age, grace⟩ : Cmd).right) := Lib.hid (by have hp := HPL.out; unfold Cmd.right Cmd.fits; simp [hp, h_woff, h_val])
          clear h_woff h_val
          go_wp2_with (first | (go_at_call 22; refine (refwithin_any _ _ _).mono ?_; rintro e w' ⟨rfl, rfl⟩) | (go_at_call 25; refine (reftime_any _ _).mono ?_; rintro e w' ⟨rfl, rfl⟩) | (go_at_call 24; refine (HV.out _).mono ?_; rintro e w' ⟨rfl, rfl⟩))
          go_ret
          exact ⟨_, rfl, iff_of_true rfl HF.out, HB2.out⟩
        · have q_h_val : validS group = false := by simpa using h_val
          have HF : Hid (¬ (⟨3, pid, seq, recs, group, off, max, now, sum, seg, keep, age, grace⟩ : Cmd).right) := Lib.hid (by have hp := HPL.out; unfold Cmd.right Cmd.fits; simp [hp, h_woff, h_val])
          clear h_woff h_val
          go_wp2_with (first | (go_at_call 22; refine (refwithin_any _ _ _).mono ?_; rintro e w' ⟨rfl, rfl⟩) | (go_at_call 25; refine (reftime_any _ _).mono ?_; rintro e w' ⟨rfl, rfl⟩) | (go_at_call 24; refine (HV.out _).mono ?_; rintro e w' ⟨rfl, rfl⟩))
          go_ret
          exact ⟨_, rfl, iff_of_false Bool.false_ne_true HF.out, HB2.out⟩
      · have q_h_woff : decide (within off 1125899906842624) = false := decide_eq_false h_woff
        have HF : Hid (¬ (⟨3, pid, seq, recs, group, off, max, now, sum, seg, keep, age, grace⟩ : Cmd).right) := Lib.hid (by have hp := HPL.out; unfold Cmd.right Cmd.fits; simp [hp, h_woff])
        clear h_woff
        go_wp2_with (first | (go_at_call 22; refine (refwithin_any _ _ _).mono ?_; rintro e w' ⟨rfl, rfl⟩) | (go_at_call 25; refine (reftime_any _ _).mono ?_; rintro e w' ⟨rfl, rfl⟩) | (go_at_call 24; refine (HV.out _).mono ?_; rintro e w' ⟨rfl, rfl⟩))
        go_ret
        exact ⟨_, rfl, iff_of_false Bool.false_ne_true HF.out, HB2.out⟩
    · go_enter Tryd.func11, Tryd.ntmps11
      go_wp2_with (go_at_call 21; refine HP.out.mono ?_; rintro e w' ⟨rfl, rfl⟩; refine Hid.out ?_)
      refine Lib.hid ?_
      by_cases h_val : validS group = true
      · have q_h_val : validS group = true := h_val
        have HF : Hid ((⟨4, pid, seq, recs, group, off, max, now, sum, seg, keep, age, grace⟩ : Cmd).right) := Lib.hid (by have hp := HPL.out; unfold Cmd.right Cmd.fits; simp [hp, h_val])
        clear h_val
        go_wp2_with (first | (go_at_call 22; refine (refwithin_any _ _ _).mono ?_; rintro e w' ⟨rfl, rfl⟩) | (go_at_call 25; refine (reftime_any _ _).mono ?_; rintro e w' ⟨rfl, rfl⟩) | (go_at_call 24; refine (HV.out _).mono ?_; rintro e w' ⟨rfl, rfl⟩))
        go_ret
        exact ⟨_, rfl, iff_of_true rfl HF.out, HB2.out⟩
      · have q_h_val : validS group = false := by simpa using h_val
        have HF : Hid (¬ (⟨4, pid, seq, recs, group, off, max, now, sum, seg, keep, age, grace⟩ : Cmd).right) := Lib.hid (by have hp := HPL.out; unfold Cmd.right Cmd.fits; simp [hp, h_val])
        clear h_val
        go_wp2_with (first | (go_at_call 22; refine (refwithin_any _ _ _).mono ?_; rintro e w' ⟨rfl, rfl⟩) | (go_at_call 25; refine (reftime_any _ _).mono ?_; rintro e w' ⟨rfl, rfl⟩) | (go_at_call 24; refine (HV.out _).mono ?_; rintro e w' ⟨rfl, rfl⟩))
        go_ret
        exact ⟨_, rfl, iff_of_false Bool.false_ne_true HF.out, HB2.out⟩
    · go_enter Tryd.func11, Tryd.ntmps11
      go_wp2_with (go_at_call 21; refine HP.out.mono ?_; rintro e w' ⟨rfl, rfl⟩; refine Hid.out ?_)
      refine Lib.hid ?_
      by_cases h_tnow : isTime now
      · have q_h_tnow : decide (isTime now) = true := decide_eq_true h_tnow
        have HF : Hid ((⟨5, pid, seq, recs, group, off, max, now, sum, seg, keep, age, grace⟩ : Cmd).right) := Lib.hid (by have hp := HPL.out; unfold Cmd.right Cmd.fits; simp [hp, h_tnow])
        clear h_tnow
        go_wp2_with (first | (go_at_call 22; refine (refwithin_any _ _ _).mono ?_; rintro e w' ⟨rfl, rfl⟩) | (go_at_call 25; refine (reftime_any _ _).mono ?_; rintro e w' ⟨rfl, rfl⟩) | (go_at_call 24; refine (HV.out _).mono ?_; rintro e w' ⟨rfl, rfl⟩))
        go_ret
        exact ⟨_, rfl, iff_of_true rfl HF.out, HB2.out⟩
      · have q_h_tnow : decide (isTime now) = false := decide_eq_false h_tnow
        have HF : Hid (¬ (⟨5, pid, seq, recs, group, off, max, now, sum, seg, keep, age, grace⟩ : Cmd).right) := Lib.hid (by have hp := HPL.out; unfold Cmd.right Cmd.fits; simp [hp, h_tnow])
        clear h_tnow
        go_wp2_with (first | (go_at_call 22; refine (refwithin_any _ _ _).mono ?_; rintro e w' ⟨rfl, rfl⟩) | (go_at_call 25; refine (reftime_any _ _).mono ?_; rintro e w' ⟨rfl, rfl⟩) | (go_at_call 24; refine (HV.out _).mono ?_; rintro e w' ⟨rfl, rfl⟩))
        go_ret
        exact ⟨_, rfl, iff_of_false Bool.false_ne_true HF.out, HB2.out⟩
    · go_enter Tryd.func11, Tryd.ntmps11
      go_wp2_with (go_at_call 21; refine HP.out.mono ?_; rintro e w' ⟨rfl, rfl⟩; refine Hid.out ?_)
      refine Lib.hid ?_
      by_cases h_seg1 : 1 ≤ seg
      · have q_h_seg1 : decide (1 ≤ seg) = true := decide_eq_true h_seg1
        by_cases h_seg1000 : seg ≤ 1000
        · have q_h_seg1000 : decide (seg ≤ 1000) = true := decide_eq_true h_seg1000
          by_cases h_wkeep : within keep 1099511627776
          · have q_h_wkeep : decide (within keep 1099511627776) = true := decide_eq_true h_wkeep
            by_cases h_wage : within age 1099511627776
            · have q_h_wage : decide (within age 1099511627776) = true := decide_eq_true h_wage
              by_cases h_wgrace : within grace 1099511627776
              · have q_h_wgrace : decide (within grace 1099511627776) = true := decide_eq_true h_wgrace
                have HF : Hid ((⟨6, pid, seq, recs, group, off, max, now, sum, seg, keep, age, grace⟩ : Cmd).right) := Lib.hid (by have hp := HPL.out; unfold Cmd.right Cmd.fits; simp [hp, h_seg1, h_seg1000, h_wkeep, h_wage, h_wgrace])
                clear h_seg1 h_seg1000 h_wkeep h_wage h_wgrace
                go_wp2_with (first | (go_at_call 22; refine (refwithin_any _ _ _).mono ?_; rintro e w' ⟨rfl, rfl⟩) | (go_at_call 25; refine (reftime_any _ _).mono ?_; rintro e w' ⟨rfl, rfl⟩) | (go_at_call 24; refine (HV.out _).mono ?_; rintro e w' ⟨rfl, rfl⟩))
                go_ret
                exact ⟨_, rfl, iff_of_true rfl HF.out, HB2.out⟩
              · have q_h_wgrace : decide (within grace 1099511627776) = false := decide_eq_false h_wgrace
                have HF : Hid (¬ (⟨6, pid, seq, recs, group, off, max, now, sum, seg, keep, age, grace⟩ : Cmd).right) := Lib.hid (by have hp := HPL.out; unfold Cmd.right Cmd.fits; simp [hp, h_seg1, h_seg1000, h_wkeep, h_wage, h_wgrace])
                clear h_seg1 h_seg1000 h_wkeep h_wage h_wgrace
                go_wp2_with (first | (go_at_call 22; refine (refwithin_any _ _ _).mono ?_; rintro e w' ⟨rfl, rfl⟩) | (go_at_call 25; refine (reftime_any _ _).mono ?_; rintro e w' ⟨rfl, rfl⟩) | (go_at_call 24; refine (HV.out _).mono ?_; rintro e w' ⟨rfl, rfl⟩))
                go_ret
                exact ⟨_, rfl, iff_of_false Bool.false_ne_true HF.out, HB2.out⟩
            · have q_h_wage : decide (within age 1099511627776) = false := decide_eq_false h_wage
              have HF : Hid (¬ (⟨6, pid, seq, recs, group, off, max, now, sum, seg, keep, age, grace⟩ : Cmd).right) := Lib.hid (by have hp := HPL.out; unfold Cmd.right Cmd.fits; simp [hp, h_seg1, h_seg1000, h_wkeep, h_wage])
              clear h_seg1 h_seg1000 h_wkeep h_wage
              go_wp2_with (first | (go_at_call 22; refine (refwithin_any _ _ _).mono ?_; rintro e w' ⟨rfl, rfl⟩) | (go_at_call 25; refine (reftime_any _ _).mono ?_; rintro e w' ⟨rfl, rfl⟩) | (go_at_call 24; refine (HV.out _).mono ?_; rintro e w' ⟨rfl, rfl⟩))
              go_ret
              exact ⟨_, rfl, iff_of_false Bool.false_ne_true HF.out, HB2.out⟩
          · have q_h_wkeep : decide (within keep 1099511627776) = false := decide_eq_false h_wkeep
            have HF : Hid (¬ (⟨6, pid, seq, recs, group, off, max, now, sum, seg, keep, age, grace⟩ : Cmd).right) := Lib.hid (by have hp := HPL.out; unfold Cmd.right Cmd.fits; simp [hp, h_seg1, h_seg1000, h_wkeep])
            clear h_seg1 h_seg1000 h_wkeep
            go_wp2_with (first | (go_at_call 22; refine (refwithin_any _ _ _).mono ?_; rintro e w' ⟨rfl, rfl⟩) | (go_at_call 25; refine (reftime_any _ _).mono ?_; rintro e w' ⟨rfl, rfl⟩) | (go_at_call 24; refine (HV.out _).mono ?_; rintro e w' ⟨rfl, rfl⟩))
            go_ret
            exact ⟨_, rfl, iff_of_false Bool.false_ne_true HF.out, HB2.out⟩
        · have q_h_seg1000 : decide (seg ≤ 1000) = false := decide_eq_false h_seg1000
          have HF : Hid (¬ (⟨6, pid, seq, recs, group, off, max, now, sum, seg, keep, age, grace⟩ : Cmd).right) := Lib.hid (by have hp := HPL.out; unfold Cmd.right Cmd.fits; simp [hp, h_seg1, h_seg1000])
          clear h_seg1 h_seg1000
          go_wp2_with (first | (go_at_call 22; refine (refwithin_any _ _ _).mono ?_; rintro e w' ⟨rfl, rfl⟩) | (go_at_call 25; refine (reftime_any _ _).mono ?_; rintro e w' ⟨rfl, rfl⟩) | (go_at_call 24; refine (HV.out _).mono ?_; rintro e w' ⟨rfl, rfl⟩))
          go_ret
          exact ⟨_, rfl, iff_of_false Bool.false_ne_true HF.out, HB2.out⟩
      · have q_h_seg1 : decide (1 ≤ seg) = false := decide_eq_false h_seg1
        have HF : Hid (¬ (⟨6, pid, seq, recs, group, off, max, now, sum, seg, keep, age, grace⟩ : Cmd).right) := Lib.hid (by have hp := HPL.out; unfold Cmd.right Cmd.fits; simp [hp, h_seg1])
        clear h_seg1
        go_wp2_with (first | (go_at_call 22; refine (refwithin_any _ _ _).mono ?_; rintro e w' ⟨rfl, rfl⟩) | (go_at_call 25; refine (reftime_any _ _).mono ?_; rintro e w' ⟨rfl, rfl⟩) | (go_at_call 24; refine (HV.out _).mono ?_; rintro e w' ⟨rfl, rfl⟩))
        go_ret
        exact ⟨_, rfl, iff_of_false Bool.false_ne_true HF.out, HB2.out⟩
    · go_enter Tryd.func11, Tryd.ntmps11
      go_wp2_with (go_at_call 21; refine HP.out.mono ?_; rintro e w' ⟨rfl, rfl⟩; refine Hid.out ?_)
      refine Lib.hid ?_
      have HF : Hid ((⟨7, pid, seq, recs, group, off, max, now, sum, seg, keep, age, grace⟩ : Cmd).right) := Lib.hid (by have hp := HPL.out; unfold Cmd.right Cmd.fits; simp [hp])
      go_wp2_with (first | (go_at_call 22; refine (refwithin_any _ _ _).mono ?_; rintro e w' ⟨rfl, rfl⟩) | (go_at_call 25; refine (reftime_any _ _).mono ?_; rintro e w' ⟨rfl, rfl⟩) | (go_at_call 24; refine (HV.out _).mono ?_; rintro e w' ⟨rfl, rfl⟩))
      go_ret
      exact ⟨_, rfl, iff_of_true rfl HF.out, HB2.out⟩
    · go_enter Tryd.func11, Tryd.ntmps11
      go_wp2_with (go_at_call 21; refine HP.out.mono ?_; rintro e w' ⟨rfl, rfl⟩; refine Hid.out ?_)
      refine Lib.hid ?_
      by_cases h_tnow : isTime now
      · have q_h_tnow : decide (isTime now) = true := decide_eq_true h_tnow
        by_cases h_woff : within off 1125899906842624
        · have q_h_woff : decide (within off 1125899906842624) = true := decide_eq_true h_woff
          have HF : Hid ((⟨8, pid, seq, recs, group, off, max, now, sum, seg, keep, age, grace⟩ : Cmd).right) := Lib.hid (by have hp := HPL.out; unfold Cmd.right Cmd.fits; simp [hp, h_tnow, h_woff])
          clear h_tnow h_woff
          go_wp2_with (first | (go_at_call 22; refine (refwithin_any _ _ _).mono ?_; rintro e w' ⟨rfl, rfl⟩) | (go_at_call 25; refine (reftime_any _ _).mono ?_; rintro e w' ⟨rfl, rfl⟩) | (go_at_call 24; refine (HV.out _).mono ?_; rintro e w' ⟨rfl, rfl⟩))
          go_ret
          exact ⟨_, rfl, iff_of_true rfl HF.out, HB2.out⟩
        · have q_h_woff : decide (within off 1125899906842624) = false := decide_eq_false h_woff
          have HF : Hid (¬ (⟨8, pid, seq, recs, group, off, max, now, sum, seg, keep, age, grace⟩ : Cmd).right) := Lib.hid (by have hp := HPL.out; unfold Cmd.right Cmd.fits; simp [hp, h_tnow, h_woff])
          clear h_tnow h_woff
          go_wp2_with (first | (go_at_call 22; refine (refwithin_any _ _ _).mono ?_; rintro e w' ⟨rfl, rfl⟩) | (go_at_call 25; refine (reftime_any _ _).mono ?_; rintro e w' ⟨rfl, rfl⟩) | (go_at_call 24; refine (HV.out _).mono ?_; rintro e w' ⟨rfl, rfl⟩))
          go_ret
          exact ⟨_, rfl, iff_of_false Bool.false_ne_true HF.out, HB2.out⟩
      · have q_h_tnow : decide (isTime now) = false := decide_eq_false h_tnow
        have HF : Hid (¬ (⟨8, pid, seq, recs, group, off, max, now, sum, seg, keep, age, grace⟩ : Cmd).right) := Lib.hid (by have hp := HPL.out; unfold Cmd.right Cmd.fits; simp [hp, h_tnow])
        clear h_tnow
        go_wp2_with (first | (go_at_call 22; refine (refwithin_any _ _ _).mono ?_; rintro e w' ⟨rfl, rfl⟩) | (go_at_call 25; refine (reftime_any _ _).mono ?_; rintro e w' ⟨rfl, rfl⟩) | (go_at_call 24; refine (HV.out _).mono ?_; rintro e w' ⟨rfl, rfl⟩))
        go_ret
        exact ⟨_, rfl, iff_of_false Bool.false_ne_true HF.out, HB2.out⟩
    · go_enter Tryd.func11, Tryd.ntmps11
      go_wp2_with (go_at_call 21; refine HP.out.mono ?_; rintro e w' ⟨rfl, rfl⟩; refine Hid.out ?_)
      refine Lib.hid ?_
      by_cases h_tnow : isTime now
      · have q_h_tnow : decide (isTime now) = true := decide_eq_true h_tnow
        have HF : Hid ((⟨9, pid, seq, recs, group, off, max, now, sum, seg, keep, age, grace⟩ : Cmd).right) := Lib.hid (by have hp := HPL.out; unfold Cmd.right Cmd.fits; simp [hp, h_tnow])
        clear h_tnow
        go_wp2_with (first | (go_at_call 22; refine (refwithin_any _ _ _).mono ?_; rintro e w' ⟨rfl, rfl⟩) | (go_at_call 25; refine (reftime_any _ _).mono ?_; rintro e w' ⟨rfl, rfl⟩) | (go_at_call 24; refine (HV.out _).mono ?_; rintro e w' ⟨rfl, rfl⟩))
        go_ret
        exact ⟨_, rfl, iff_of_true rfl HF.out, HB2.out⟩
      · have q_h_tnow : decide (isTime now) = false := decide_eq_false h_tnow
        have HF : Hid (¬ (⟨9, pid, seq, recs, group, off, max, now, sum, seg, keep, age, grace⟩ : Cmd).right) := Lib.hid (by have hp := HPL.out; unfold Cmd.right Cmd.fits; simp [hp, h_tnow])
        clear h_tnow
        go_wp2_with (first | (go_at_call 22; refine (refwithin_any _ _ _).mono ?_; rintro e w' ⟨rfl, rfl⟩) | (go_at_call 25; refine (reftime_any _ _).mono ?_; rintro e w' ⟨rfl, rfl⟩) | (go_at_call 24; refine (HV.out _).mono ?_; rintro e w' ⟨rfl, rfl⟩))
        go_ret
        exact ⟨_, rfl, iff_of_false Bool.false_ne_true HF.out, HB2.out⟩
    · go_enter Tryd.func11, Tryd.ntmps11
      go_wp2_with (go_at_call 21; refine HP.out.mono ?_; rintro e w' ⟨rfl, rfl⟩; refine Hid.out ?_)
      refine Lib.hid ?_
      have HF : Hid ((⟨10, pid, seq, recs, group, off, max, now, sum, seg, keep, age, grace⟩ : Cmd).right) := Lib.hid (by have hp := HPL.out; unfold Cmd.right Cmd.fits; simp [hp])
      go_wp2_with (first | (go_at_call 22; refine (refwithin_any _ _ _).mono ?_; rintro e w' ⟨rfl, rfl⟩) | (go_at_call 25; refine (reftime_any _ _).mono ?_; rintro e w' ⟨rfl, rfl⟩) | (go_at_call 24; refine (HV.out _).mono ?_; rintro e w' ⟨rfl, rfl⟩))
      go_ret
      exact ⟨_, rfl, iff_of_true rfl HF.out, HB2.out⟩
    · go_enter Tryd.func11, Tryd.ntmps11
      go_wp2_with (go_at_call 21; refine HP.out.mono ?_; rintro e w' ⟨rfl, rfl⟩; refine Hid.out ?_)
      refine Lib.hid ?_
      by_cases h_woff : within off 1125899906842624
      · have q_h_woff : decide (within off 1125899906842624) = true := decide_eq_true h_woff
        by_cases h_wseq : within seq 1099511627776
        · have q_h_wseq : decide (within seq 1099511627776) = true := decide_eq_true h_wseq
          by_cases h_wmax : within max 1099511627776
          · have q_h_wmax : decide (within max 1099511627776) = true := decide_eq_true h_wmax
            have HF : Hid ((⟨11, pid, seq, recs, group, off, max, now, sum, seg, keep, age, grace⟩ : Cmd).right) := Lib.hid (by have hp := HPL.out; unfold Cmd.right Cmd.fits; simp [hp, h_woff, h_wseq, h_wmax])
            clear h_woff h_wseq h_wmax
            go_wp2_with (first | (go_at_call 22; refine (refwithin_any _ _ _).mono ?_; rintro e w' ⟨rfl, rfl⟩) | (go_at_call 25; refine (reftime_any _ _).mono ?_; rintro e w' ⟨rfl, rfl⟩) | (go_at_call 24; refine (HV.out _).mono ?_; rintro e w' ⟨rfl, rfl⟩))
            go_ret
            exact ⟨_, rfl, iff_of_true rfl HF.out, HB2.out⟩
          · have q_h_wmax : decide (within max 1099511627776) = false := decide_eq_false h_wmax
            have HF : Hid (¬ (⟨11, pid, seq, recs, group, off, max, now, sum, seg, keep, age, grace⟩ : Cmd).right) := Lib.hid (by have hp := HPL.out; unfold Cmd.right Cmd.fits; simp [hp, h_woff, h_wseq, h_wmax])
            clear h_woff h_wseq h_wmax
            go_wp2_with (first | (go_at_call 22; refine (refwithin_any _ _ _).mono ?_; rintro e w' ⟨rfl, rfl⟩) | (go_at_call 25; refine (reftime_any _ _).mono ?_; rintro e w' ⟨rfl, rfl⟩) | (go_at_call 24; refine (HV.out _).mono ?_; rintro e w' ⟨rfl, rfl⟩))
            go_ret
            exact ⟨_, rfl, iff_of_false Bool.false_ne_true HF.out, HB2.out⟩
        · have q_h_wseq : decide (within seq 1099511627776) = false := decide_eq_false h_wseq
          have HF : Hid (¬ (⟨11, pid, seq, recs, group, off, max, now, sum, seg, keep, age, grace⟩ : Cmd).right) := Lib.hid (by have hp := HPL.out; unfold Cmd.right Cmd.fits; simp [hp, h_woff, h_wseq])
          clear h_woff h_wseq
          go_wp2_with (first | (go_at_call 22; refine (refwithin_any _ _ _).mono ?_; rintro e w' ⟨rfl, rfl⟩) | (go_at_call 25; refine (reftime_any _ _).mono ?_; rintro e w' ⟨rfl, rfl⟩) | (go_at_call 24; refine (HV.out _).mono ?_; rintro e w' ⟨rfl, rfl⟩))
          go_ret
          exact ⟨_, rfl, iff_of_false Bool.false_ne_true HF.out, HB2.out⟩
      · have q_h_woff : decide (within off 1125899906842624) = false := decide_eq_false h_woff
        have HF : Hid (¬ (⟨11, pid, seq, recs, group, off, max, now, sum, seg, keep, age, grace⟩ : Cmd).right) := Lib.hid (by have hp := HPL.out; unfold Cmd.right Cmd.fits; simp [hp, h_woff])
        clear h_woff
        go_wp2_with (first | (go_at_call 22; refine (refwithin_any _ _ _).mono ?_; rintro e w' ⟨rfl, rfl⟩) | (go_at_call 25; refine (reftime_any _ _).mono ?_; rintro e w' ⟨rfl, rfl⟩) | (go_at_call 24; refine (HV.out _).mono ?_; rintro e w' ⟨rfl, rfl⟩))
        go_ret
        exact ⟨_, rfl, iff_of_false Bool.false_ne_true HF.out, HB2.out⟩
    · have q0 : (kind == 0) = false := by simp; omega
      have q1 : (kind == 1) = false := by simp; omega
      have q2 : (kind == 2) = false := by simp; omega
      have q3 : (kind == 3) = false := by simp; omega
      have q4 : (kind == 4) = false := by simp; omega
      have q5 : (kind == 5) = false := by simp; omega
      have q6 : (kind == 6) = false := by simp; omega
      have q7 : (kind == 7) = false := by simp; omega
      have q8 : (kind == 8) = false := by simp; omega
      have q9 : (kind == 9) = false := by simp; omega
      have q10 : (kind == 10) = false := by simp; omega
      have q11 : (kind == 11) = false := by simp; omega
      have HF : Hid (¬ (⟨kind, pid, seq, recs, group, off, max, now, sum, seg, keep, age, grace⟩ : Cmd).right) := Lib.hid (by unfold Cmd.right Cmd.fits; rintro ⟨_, h⟩; dsimp only at h; omega)
      clear hk
      go_enter Tryd.func11, Tryd.ntmps11
      go_wp2_with (go_at_call 21; refine HP.out.mono ?_; rintro e w' ⟨rfl, rfl⟩; refine Hid.out ?_)
      refine Lib.hid ?_
      go_wp2_with (first | (go_at_call 22; refine (refwithin_any _ _ _).mono ?_; rintro e w' ⟨rfl, rfl⟩) | (go_at_call 25; refine (reftime_any _ _).mono ?_; rintro e w' ⟨rfl, rfl⟩) | (go_at_call 24; refine (HV.out _).mono ?_; rintro e w' ⟨rfl, rfl⟩))
      go_ret
      exact ⟨_, rfl, iff_of_false Bool.false_ne_true HF.out, HB2.out⟩
  · have HPL := Lib.hid hpl
    rw [decide_eq_false hpl] at HP
    have HF : Hid (¬ c.right) := Lib.hid fun h => hpl h.1
    clear hpl
    obtain ⟨kind, pid, seq, recs, group, off, max, now, sum, seg, keep, age, grace⟩ := c
    unfold cmdO at HB1 HB2 HP HL
    unfold cmdV
    dsimp only at HB1 HB2 HP HL HV hcl ⊢
    obtain ⟨n, hn⟩ : ∃ n, recs.length = n := ⟨_, rfl⟩
    rw [hn] at HB1 HB2 HP HL hcl ⊢
    clear hn
    go_enter Tryd.func11, Tryd.ntmps11
    go_wp2_with (go_at_call 21; refine HP.out.mono ?_; rintro e w' ⟨rfl, rfl⟩)
    go_ret
    exact ⟨_, rfl, iff_of_false Bool.false_ne_true HF.out, HB2.out⟩
end Go.Proofs.YtiglignfjegilaaDoor
