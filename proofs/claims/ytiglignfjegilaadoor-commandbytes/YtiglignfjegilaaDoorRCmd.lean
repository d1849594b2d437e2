/- Contracts of the document's own Right of commands. -/
import Derived.Test.YtiglignfjegilaaDoorCmdBase
import Derived.Test.YtiglignfjegilaaDoorRRight
import Derived.Test.YtiglignfjegilaaDoorRefValid
import Derived.Deep.QuietTactic
import Derived.BigQuiet
import Derived.Deep.DeepCutAuto
namespace Go.Proofs.YtiglignfjegilaaDoor
open Go.RowKit

theorem refwithin_any (n most : Int) (w : World) : Calls Tryd.prog 22 #[.int .i64 n, .int .i64 most] w (fun e w' => e = .returned (.bool (decide (within n most))) ∧ w' = w) := by
  by_cases h1 : 0 ≤ n
  · by_cases h2 : n ≤ most
    · have q1 : decide (0 ≤ n) = true := decide_eq_true h1
      have q2 : decide (n ≤ most) = true := decide_eq_true h2
      have q : decide (within n most) = true := decide_eq_true ⟨h1, h2⟩
      rw [q]
      clear q
      go_enter Tryd.func22, Tryd.ntmps22
      go_wp2
      go_ret
      exact ⟨rfl, rfl⟩
    · have q1 : decide (0 ≤ n) = true := decide_eq_true h1
      have q2 : decide (n ≤ most) = false := decide_eq_false h2
      have q : decide (within n most) = false := decide_eq_false fun h => h2 h.2
      rw [q]
      clear q
      go_enter Tryd.func22, Tryd.ntmps22
      go_wp2
      go_ret
      exact ⟨rfl, rfl⟩
  · have q1 : decide (0 ≤ n) = false := decide_eq_false h1
    have q : decide (within n most) = false := decide_eq_false fun h => h1 h.1
    rw [q]
    clear q
    go_enter Tryd.func22, Tryd.ntmps22
    go_wp2
    go_ret
    exact ⟨rfl, rfl⟩
theorem reftime_any (n : Int) (w : World) : Calls Tryd.prog 25 #[.int .i64 n] w (fun e w' => e = .returned (.bool (decide (isTime n))) ∧ w' = w) := by
  by_cases h1 : -1099511627776 ≤ n
  · by_cases h2 : n ≤ 1099511627776
    · have q1 : decide (-1099511627776 ≤ n) = true := decide_eq_true h1
      have q2 : decide (n ≤ 1099511627776) = true := decide_eq_true h2
      have q : decide (isTime n) = true := decide_eq_true ⟨h1, h2⟩
      rw [q]
      clear q
      go_enter Tryd.func25, Tryd.ntmps25
      go_wp2
      go_ret
      exact ⟨rfl, rfl⟩
    · have q1 : decide (-1099511627776 ≤ n) = true := decide_eq_true h1
      have q2 : decide (n ≤ 1099511627776) = false := decide_eq_false h2
      have q : decide (isTime n) = false := decide_eq_false fun h => h2 h.2
      rw [q]
      clear q
      go_enter Tryd.func25, Tryd.ntmps25
      go_wp2
      go_ret
      exact ⟨rfl, rfl⟩
  · have q1 : decide (-1099511627776 ≤ n) = false := decide_eq_false h1
    have q : decide (isTime n) = false := decide_eq_false fun h => h1 h.1
    rw [q]
    clear q
    go_enter Tryd.func25, Tryd.ntmps25
    go_wp2
    go_ret
    exact ⟨rfl, rfl⟩
theorem bool_of_iff {d : Bool} {p : Prop} [Decidable p] (h : d = true ↔ p) : d = decide p := by
  by_cases hp : p
  · rw [decide_eq_true hp]; exact h.2 hp
  · rw [decide_eq_false hp]
    cases d
    · rfl
    · exact absurd (h.1 rfl) hp
set_option maxRecDepth 100000 in
set_option maxHeartbeats 4000000 in
theorem refplain_any (A : Option Addr) (cap : Nat) (c : Cmd) (w : World) (hc : c.recs.length ≤ cap) (_ : cap ≤ maxLen) :
    Calls Tryd.prog 21 #[cmdV (.slice A c.recs.length cap) c] w (fun e w' => e = .returned (.bool (decide c.plain)) ∧ w' = w.alloc (cmdO (.slice A c.recs.length cap) c)) := by
  suffices h : Calls Tryd.prog 21 #[cmdV (.slice A c.recs.length cap) c] w (fun e w' => ∃ d, e = .returned (.bool d) ∧ (d = true ↔ c.plain) ∧ w' = w.alloc (cmdO (.slice A c.recs.length cap) c)) by
    refine h.mono ?_
    rintro e w' ⟨d, rfl, hd, rfl⟩
    exact ⟨by rw [bool_of_iff hd], rfl⟩
  obtain ⟨kind, pid, seq, recs, group, off, max, now, sum, seg, keep, age, grace⟩ := c
  rw [Cmd.plain_iff]
  unfold cmdV cmdO Cmd.bad1 Cmd.bad2
  dsimp only at hc ⊢
  obtain ⟨n, hn⟩ : ∃ n, recs.length = n := ⟨_, rfl⟩
  rw [hn] at hc ⊢
  clear hn
  go_enter Tryd.func21, Tryd.ntmps21
  go_upto_region 2 with fail
  go_cut [4] (fun s wx => ∃ d, s = .bool d ∧ (d = true ↔ (kind = 1)) ∧ wx = w.alloc (.cells #[.int .i64 kind, .int .i64 pid, .int .i64 seq, .slice A n cap, .string group, .int .i64 off, .int .i64 max, .int .i64 now, .int .u32 sum, .int .i64 seg, .int .i64 keep, .int .i64 age, .int .i64 grace] 27))
  case first =>
    by_cases h_k1 : kind = 1
    · have q_h_k1 : (kind == 1) = true := by simp [h_k1]
      have HF : Hid ((kind = 1)) := Lib.hid h_k1
      clear h_k1
      as_aux_lemma =>
      go_wp2_with fail
      go_meet
      exact ⟨_, rfl, iff_of_true rfl HF.out, rfl⟩
    · have q_h_k1 : (kind == 1) = false := by simp [h_k1]
      have HF : Hid (¬ (kind = 1)) := Lib.hid h_k1
      clear h_k1
      as_aux_lemma =>
      go_wp2_with fail
      go_meet
      exact ⟨_, rfl, iff_of_false Bool.false_ne_true HF.out, rfl⟩
  case rest =>
  obtain ⟨produce, rfl, e0_produce, rfl⟩ := hcut
  have e_produce := Lib.hid e0_produce
  clear e0_produce
  go_upto_region 3 with fail
  go_cut [5] (fun s wx => ∃ d, s = .bool d ∧ (d = true ↔ (kind = 3 ∨ kind = 4)) ∧ wx = w.alloc (.cells #[.int .i64 kind, .int .i64 pid, .int .i64 seq, .slice A n cap, .string group, .int .i64 off, .int .i64 max, .int .i64 now, .int .u32 sum, .int .i64 seg, .int .i64 keep, .int .i64 age, .int .i64 grace] 27))
  case first =>
    by_cases h_k3 : kind = 3
    · have q_h_k3 : (kind == 3) = true := by simp [h_k3]
      have HF : Hid ((kind = 3 ∨ kind = 4)) := Lib.hid (.inl h_k3)
      clear h_k3
      as_aux_lemma =>
      go_wp2_with fail
      go_meet
      exact ⟨_, rfl, iff_of_true rfl HF.out, rfl⟩
    · have q_h_k3 : (kind == 3) = false := by simp [h_k3]
      by_cases h_k4 : kind = 4
      · have q_h_k4 : (kind == 4) = true := by simp [h_k4]
        have HF : Hid ((kind = 3 ∨ kind = 4)) := Lib.hid (.inr h_k4)
        clear h_k3 h_k4
        as_aux_lemma =>
        go_wp2_with fail
        go_meet
        exact ⟨_, rfl, iff_of_true rfl HF.out, rfl⟩
      · have q_h_k4 : (kind == 4) = false := by simp [h_k4]
        have HF : Hid (¬ (kind = 3 ∨ kind = 4)) := Lib.hid (fun k => k.elim h_k3 h_k4)
        clear h_k3 h_k4
        as_aux_lemma =>
        go_wp2_with fail
        go_meet
        exact ⟨_, rfl, iff_of_false Bool.false_ne_true HF.out, rfl⟩
  case rest =>
  obtain ⟨named, rfl, e0_named, rfl⟩ := hcut
  have e_named := Lib.hid e0_named
  clear e0_named
  go_upto_region 4 with fail
  go_cut [6] (fun s wx => ∃ d, s = .bool d ∧ (d = true ↔ (kind = 2 ∨ kind = 3 ∨ kind = 8 ∨ kind = 11)) ∧ wx = w.alloc (.cells #[.int .i64 kind, .int .i64 pid, .int .i64 seq, .slice A n cap, .string group, .int .i64 off, .int .i64 max, .int .i64 now, .int .u32 sum, .int .i64 seg, .int .i64 keep, .int .i64 age, .int .i64 grace] 27))
  case first =>
    by_cases h_k2 : kind = 2
    · have q_h_k2 : (kind == 2) = true := by simp [h_k2]
      have HF : Hid ((kind = 2 ∨ kind = 3 ∨ kind = 8 ∨ kind = 11)) := Lib.hid (.inl h_k2)
      clear h_k2
      as_aux_lemma =>
      go_wp2_with fail
      go_meet
      exact ⟨_, rfl, iff_of_true rfl HF.out, rfl⟩
    · have q_h_k2 : (kind == 2) = false := by simp [h_k2]
      by_cases h_k3 : kind = 3
      · have q_h_k3 : (kind == 3) = true := by simp [h_k3]
        have HF : Hid ((kind = 2 ∨ kind = 3 ∨ kind = 8 ∨ kind = 11)) := Lib.hid (.inr (.inl h_k3))
        clear h_k2 h_k3
        as_aux_lemma =>
        go_wp2_with fail
        go_meet
        exact ⟨_, rfl, iff_of_true rfl HF.out, rfl⟩
      · have q_h_k3 : (kind == 3) = false := by simp [h_k3]
        by_cases h_k8 : kind = 8
        · have q_h_k8 : (kind == 8) = true := by simp [h_k8]
          have HF : Hid ((kind = 2 ∨ kind = 3 ∨ kind = 8 ∨ kind = 11)) := Lib.hid (.inr (.inr (.inl h_k8)))
          clear h_k2 h_k3 h_k8
          as_aux_lemma =>
          go_wp2_with fail
          go_meet
          exact ⟨_, rfl, iff_of_true rfl HF.out, rfl⟩
        · have q_h_k8 : (kind == 8) = false := by simp [h_k8]
          by_cases h_k11 : kind = 11
          · have q_h_k11 : (kind == 11) = true := by simp [h_k11]
            have HF : Hid ((kind = 2 ∨ kind = 3 ∨ kind = 8 ∨ kind = 11)) := Lib.hid (.inr (.inr (.inr h_k11)))
            clear h_k2 h_k3 h_k8 h_k11
            as_aux_lemma =>
            go_wp2_with fail
            go_meet
            exact ⟨_, rfl, iff_of_true rfl HF.out, rfl⟩
          · have q_h_k11 : (kind == 11) = false := by simp [h_k11]
            have HF : Hid (¬ (kind = 2 ∨ kind = 3 ∨ kind = 8 ∨ kind = 11)) := Lib.hid (fun k => k.elim h_k2 (fun k => k.elim h_k3 (fun k => k.elim h_k8 h_k11)))
            clear h_k2 h_k3 h_k8 h_k11
            as_aux_lemma =>
            go_wp2_with fail
            go_meet
            exact ⟨_, rfl, iff_of_false Bool.false_ne_true HF.out, rfl⟩
  case rest =>
  obtain ⟨placed, rfl, e0_placed, rfl⟩ := hcut
  have e_placed := Lib.hid e0_placed
  clear e0_placed
  go_upto_region 5 with fail
  go_cut [7] (fun s wx => ∃ d, s = .bool d ∧ (d = true ↔ (kind = 5 ∨ kind = 8 ∨ kind = 9)) ∧ wx = w.alloc (.cells #[.int .i64 kind, .int .i64 pid, .int .i64 seq, .slice A n cap, .string group, .int .i64 off, .int .i64 max, .int .i64 now, .int .u32 sum, .int .i64 seg, .int .i64 keep, .int .i64 age, .int .i64 grace] 27))
  case first =>
    by_cases h_k5 : kind = 5
    · have q_h_k5 : (kind == 5) = true := by simp [h_k5]
      have HF : Hid ((kind = 5 ∨ kind = 8 ∨ kind = 9)) := Lib.hid (.inl h_k5)
      clear h_k5
      as_aux_lemma =>
      go_wp2_with fail
      go_meet
      exact ⟨_, rfl, iff_of_true rfl HF.out, rfl⟩
    · have q_h_k5 : (kind == 5) = false := by simp [h_k5]
      by_cases h_k8 : kind = 8
      · have q_h_k8 : (kind == 8) = true := by simp [h_k8]
        have HF : Hid ((kind = 5 ∨ kind = 8 ∨ kind = 9)) := Lib.hid (.inr (.inl h_k8))
        clear h_k5 h_k8
        as_aux_lemma =>
        go_wp2_with fail
        go_meet
        exact ⟨_, rfl, iff_of_true rfl HF.out, rfl⟩
      · have q_h_k8 : (kind == 8) = false := by simp [h_k8]
        by_cases h_k9 : kind = 9
        · have q_h_k9 : (kind == 9) = true := by simp [h_k9]
          have HF : Hid ((kind = 5 ∨ kind = 8 ∨ kind = 9)) := Lib.hid (.inr (.inr h_k9))
          clear h_k5 h_k8 h_k9
          as_aux_lemma =>
          go_wp2_with fail
          go_meet
          exact ⟨_, rfl, iff_of_true rfl HF.out, rfl⟩
        · have q_h_k9 : (kind == 9) = false := by simp [h_k9]
          have HF : Hid (¬ (kind = 5 ∨ kind = 8 ∨ kind = 9)) := Lib.hid (fun k => k.elim h_k5 (fun k => k.elim h_k8 h_k9))
          clear h_k5 h_k8 h_k9
          as_aux_lemma =>
          go_wp2_with fail
          go_meet
          exact ⟨_, rfl, iff_of_false Bool.false_ne_true HF.out, rfl⟩
  case rest =>
  obtain ⟨timed, rfl, e0_timed, rfl⟩ := hcut
  have e_timed := Lib.hid e0_timed
  clear e0_timed
  go_upto_region 6 with fail
  go_cut [8] (fun s wx => ∃ d, s = .bool d ∧ (d = true ↔ (kind = 11)) ∧ wx = w.alloc (.cells #[.int .i64 kind, .int .i64 pid, .int .i64 seq, .slice A n cap, .string group, .int .i64 off, .int .i64 max, .int .i64 now, .int .u32 sum, .int .i64 seg, .int .i64 keep, .int .i64 age, .int .i64 grace] 27))
  case first =>
    by_cases h_k11 : kind = 11
    · have q_h_k11 : (kind == 11) = true := by simp [h_k11]
      have HF : Hid ((kind = 11)) := Lib.hid h_k11
      clear h_k11
      as_aux_lemma =>
      go_wp2_with fail
      go_meet
      exact ⟨_, rfl, iff_of_true rfl HF.out, rfl⟩
    · have q_h_k11 : (kind == 11) = false := by simp [h_k11]
      have HF : Hid (¬ (kind = 11)) := Lib.hid h_k11
      clear h_k11
      as_aux_lemma =>
      go_wp2_with fail
      go_meet
      exact ⟨_, rfl, iff_of_false Bool.false_ne_true HF.out, rfl⟩
  case rest =>
  obtain ⟨offl, rfl, e0_offl, rfl⟩ := hcut
  have e_offl := Lib.hid e0_offl
  clear e0_offl
  go_upto_region 7 with fail
  go_cut [79] (fun s wx => ∃ d, s = .bool d ∧ (d = true ↔ (¬ kind = 1 ∧ (pid ≠ 0 ∨ 0 < n) ∨ ¬ kind = 1 ∧ ¬ kind = 11 ∧ seq ≠ 0 ∨ ¬ (kind = 3 ∨ kind = 4) ∧ ¬ group.size = 0)) ∧ wx = w.alloc (.cells #[.int .i64 kind, .int .i64 pid, .int .i64 seq, .slice A n cap, .string group, .int .i64 off, .int .i64 max, .int .i64 now, .int .u32 sum, .int .i64 seg, .int .i64 keep, .int .i64 age, .int .i64 grace] 27))
  case first =>
    cases produce with
    | true =>
      have h_produce : (kind = 1) := e_produce.out.1 rfl; clear e_produce
      cases named with
      | true =>
        have h_named : (kind = 3 ∨ kind = 4) := e_named.out.1 rfl; clear e_named
        have HF : Hid (¬ (¬ kind = 1 ∧ (pid ≠ 0 ∨ 0 < n) ∨ ¬ kind = 1 ∧ ¬ kind = 11 ∧ seq ≠ 0 ∨ ¬ (kind = 3 ∨ kind = 4) ∧ ¬ group.size = 0)) := Lib.hid (fun k => k.elim (fun k => (fun k => k h_produce) k.1) (fun k => k.elim (fun k => (fun k => k h_produce) k.1) (fun k => (fun k => k h_named) k.1)))
        clear h_produce h_named
        as_aux_lemma =>
        go_wp2_with fail
        go_meet
        exact ⟨_, rfl, iff_of_false Bool.false_ne_true HF.out, rfl⟩
      | false =>
        have h_named : ¬ (kind = 3 ∨ kind = 4) := (fun h => Bool.false_ne_true (e_named.out.2 h)); clear e_named
        by_cases h_grp : ¬ group.size = 0
        · have q_h_grp : group.toList.isEmpty = false := full_of h_grp
          have HF : Hid ((¬ kind = 1 ∧ (pid ≠ 0 ∨ 0 < n) ∨ ¬ kind = 1 ∧ ¬ kind = 11 ∧ seq ≠ 0 ∨ ¬ (kind = 3 ∨ kind = 4) ∧ ¬ group.size = 0)) := Lib.hid (.inr (.inr ⟨h_named, h_grp⟩))
          clear h_produce h_named h_grp
          as_aux_lemma =>
          go_wp2_with fail
          go_meet
          exact ⟨_, rfl, iff_of_true rfl HF.out, rfl⟩
        · have q_h_grp : group.toList.isEmpty = true := by rw [ByteArray.toList_eq, empty_of (s := group) (by omega)]; rfl
          have HF : Hid (¬ (¬ kind = 1 ∧ (pid ≠ 0 ∨ 0 < n) ∨ ¬ kind = 1 ∧ ¬ kind = 11 ∧ seq ≠ 0 ∨ ¬ (kind = 3 ∨ kind = 4) ∧ ¬ group.size = 0)) := Lib.hid (fun k => k.elim (fun k => (fun k => k h_produce) k.1) (fun k => k.elim (fun k => (fun k => k h_produce) k.1) (fun k => h_grp k.2)))
          clear h_produce h_named h_grp
          as_aux_lemma =>
          go_wp2_with fail
          go_meet
          exact ⟨_, rfl, iff_of_false Bool.false_ne_true HF.out, rfl⟩
    | false =>
      have h_produce : ¬ (kind = 1) := (fun h => Bool.false_ne_true (e_produce.out.2 h)); clear e_produce
      by_cases h_pid : pid ≠ 0
      · have q_h_pid : (pid != 0) = true := by simpa using h_pid
        have HF : Hid ((¬ kind = 1 ∧ (pid ≠ 0 ∨ 0 < n) ∨ ¬ kind = 1 ∧ ¬ kind = 11 ∧ seq ≠ 0 ∨ ¬ (kind = 3 ∨ kind = 4) ∧ ¬ group.size = 0)) := Lib.hid (.inl ⟨h_produce, (.inl h_pid)⟩)
        clear h_produce h_pid
        as_aux_lemma =>
        go_wp2_with fail
        go_meet
        exact ⟨_, rfl, iff_of_true rfl HF.out, rfl⟩
      · have q_h_pid : (pid != 0) = false := by simpa using h_pid
        by_cases h_n : 0 < n
        · have q_h_n : decide ((0 : Int) < (n : Int)) = true := decide_eq_true (by omega); have r_h_n : decide (0 < n) = true := decide_eq_true h_n
          have HF : Hid ((¬ kind = 1 ∧ (pid ≠ 0 ∨ 0 < n) ∨ ¬ kind = 1 ∧ ¬ kind = 11 ∧ seq ≠ 0 ∨ ¬ (kind = 3 ∨ kind = 4) ∧ ¬ group.size = 0)) := Lib.hid (.inl ⟨h_produce, (.inr h_n)⟩)
          clear h_produce h_pid h_n
          as_aux_lemma =>
          go_wp2_with fail
          go_meet
          exact ⟨_, rfl, iff_of_true rfl HF.out, rfl⟩
        · have q_h_n : decide ((0 : Int) < (n : Int)) = false := decide_eq_false (by omega); have r_h_n : decide (0 < n) = false := decide_eq_false h_n
          cases offl with
          | true =>
            have h_offl : (kind = 11) := e_offl.out.1 rfl; clear e_offl
            cases named with
            | true =>
              have h_named : (kind = 3 ∨ kind = 4) := e_named.out.1 rfl; clear e_named
              have HF : Hid (¬ (¬ kind = 1 ∧ (pid ≠ 0 ∨ 0 < n) ∨ ¬ kind = 1 ∧ ¬ kind = 11 ∧ seq ≠ 0 ∨ ¬ (kind = 3 ∨ kind = 4) ∧ ¬ group.size = 0)) := Lib.hid (fun k => k.elim (fun k => (fun k => k.elim h_pid h_n) k.2) (fun k => k.elim (fun k => (fun k => (fun k => k h_offl) k.1) k.2) (fun k => (fun k => k h_named) k.1)))
              clear h_produce h_pid h_n h_offl h_named
              as_aux_lemma =>
              go_wp2_with fail
              go_meet
              exact ⟨_, rfl, iff_of_false Bool.false_ne_true HF.out, rfl⟩
            | false =>
              have h_named : ¬ (kind = 3 ∨ kind = 4) := (fun h => Bool.false_ne_true (e_named.out.2 h)); clear e_named
              by_cases h_grp : ¬ group.size = 0
              · have q_h_grp : group.toList.isEmpty = false := full_of h_grp
                have HF : Hid ((¬ kind = 1 ∧ (pid ≠ 0 ∨ 0 < n) ∨ ¬ kind = 1 ∧ ¬ kind = 11 ∧ seq ≠ 0 ∨ ¬ (kind = 3 ∨ kind = 4) ∧ ¬ group.size = 0)) := Lib.hid (.inr (.inr ⟨h_named, h_grp⟩))
                clear h_produce h_pid h_n h_offl h_named h_grp
                as_aux_lemma =>
                go_wp2_with fail
                go_meet
                exact ⟨_, rfl, iff_of_true rfl HF.out, rfl⟩
              · have q_h_grp : group.toList.isEmpty = true := by rw [ByteArray.toList_eq, empty_of (s := group) (by omega)]; rfl
                have HF : Hid (¬ (¬ kind = 1 ∧ (pid ≠ 0 ∨ 0 < n) ∨ ¬ kind = 1 ∧ ¬ kind = 11 ∧ seq ≠ 0 ∨ ¬ (kind = 3 ∨ kind = 4) ∧ ¬ group.size = 0)) := Lib.hid (fun k => k.elim (fun k => (fun k => k.elim h_pid h_n) k.2) (fun k => k.elim (fun k => (fun k => (fun k => k h_offl) k.1) k.2) (fun k => h_grp k.2)))
                clear h_produce h_pid h_n h_offl h_named h_grp
                as_aux_lemma =>
                go_wp2_with fail
                go_meet
                exact ⟨_, rfl, iff_of_false Bool.false_ne_true HF.out, rfl⟩
          | false =>
            have h_offl : ¬ (kind = 11) := (fun h => Bool.false_ne_true (e_offl.out.2 h)); clear e_offl
            by_cases h_seq : seq ≠ 0
            · have q_h_seq : (seq != 0) = true := by simpa using h_seq
              have HF : Hid ((¬ kind = 1 ∧ (pid ≠ 0 ∨ 0 < n) ∨ ¬ kind = 1 ∧ ¬ kind = 11 ∧ seq ≠ 0 ∨ ¬ (kind = 3 ∨ kind = 4) ∧ ¬ group.size = 0)) := Lib.hid (.inr (.inl ⟨h_produce, ⟨h_offl, h_seq⟩⟩))
              clear h_produce h_pid h_n h_offl h_seq
              as_aux_lemma =>
              go_wp2_with fail
              go_meet
              exact ⟨_, rfl, iff_of_true rfl HF.out, rfl⟩
            · have q_h_seq : (seq != 0) = false := by simpa using h_seq
              cases named with
              | true =>
                have h_named : (kind = 3 ∨ kind = 4) := e_named.out.1 rfl; clear e_named
                have HF : Hid (¬ (¬ kind = 1 ∧ (pid ≠ 0 ∨ 0 < n) ∨ ¬ kind = 1 ∧ ¬ kind = 11 ∧ seq ≠ 0 ∨ ¬ (kind = 3 ∨ kind = 4) ∧ ¬ group.size = 0)) := Lib.hid (fun k => k.elim (fun k => (fun k => k.elim h_pid h_n) k.2) (fun k => k.elim (fun k => (fun k => h_seq k.2) k.2) (fun k => (fun k => k h_named) k.1)))
                clear h_produce h_pid h_n h_offl h_seq h_named
                as_aux_lemma =>
                go_wp2_with fail
                go_meet
                exact ⟨_, rfl, iff_of_false Bool.false_ne_true HF.out, rfl⟩
              | false =>
                have h_named : ¬ (kind = 3 ∨ kind = 4) := (fun h => Bool.false_ne_true (e_named.out.2 h)); clear e_named
                by_cases h_grp : ¬ group.size = 0
                · have q_h_grp : group.toList.isEmpty = false := full_of h_grp
                  have HF : Hid ((¬ kind = 1 ∧ (pid ≠ 0 ∨ 0 < n) ∨ ¬ kind = 1 ∧ ¬ kind = 11 ∧ seq ≠ 0 ∨ ¬ (kind = 3 ∨ kind = 4) ∧ ¬ group.size = 0)) := Lib.hid (.inr (.inr ⟨h_named, h_grp⟩))
                  clear h_produce h_pid h_n h_offl h_seq h_named h_grp
                  as_aux_lemma =>
                  go_wp2_with fail
                  go_meet
                  exact ⟨_, rfl, iff_of_true rfl HF.out, rfl⟩
                · have q_h_grp : group.toList.isEmpty = true := by rw [ByteArray.toList_eq, empty_of (s := group) (by omega)]; rfl
                  have HF : Hid (¬ (¬ kind = 1 ∧ (pid ≠ 0 ∨ 0 < n) ∨ ¬ kind = 1 ∧ ¬ kind = 11 ∧ seq ≠ 0 ∨ ¬ (kind = 3 ∨ kind = 4) ∧ ¬ group.size = 0)) := Lib.hid (fun k => k.elim (fun k => (fun k => k.elim h_pid h_n) k.2) (fun k => k.elim (fun k => (fun k => h_seq k.2) k.2) (fun k => h_grp k.2)))
                  clear h_produce h_pid h_n h_offl h_seq h_named h_grp
                  as_aux_lemma =>
                  go_wp2_with fail
                  go_meet
                  exact ⟨_, rfl, iff_of_false Bool.false_ne_true HF.out, rfl⟩
  case rest =>
  obtain ⟨bad1, rfl, e0_bad1, rfl⟩ := hcut
  have e_bad1 := Lib.hid e0_bad1
  clear e0_bad1
  cases bad1 with
  | true =>
    have h1 := e_bad1.out.1 rfl
    have HF : Hid (¬ (¬ (¬ kind = 1 ∧ (pid ≠ 0 ∨ 0 < n) ∨ ¬ kind = 1 ∧ ¬ kind = 11 ∧ seq ≠ 0 ∨ ¬ (kind = 3 ∨ kind = 4) ∧ ¬ group.size = 0) ∧ ¬ (¬ (kind = 2 ∨ kind = 3 ∨ kind = 8 ∨ kind = 11) ∧ off ≠ 0 ∨ kind ≠ 2 ∧ ¬ kind = 11 ∧ max ≠ 0 ∨ ¬ (kind = 5 ∨ kind = 8 ∨ kind = 9) ∧ now ≠ 0 ∨ ¬ kind = 11 ∧ sum ≠ 0) ∧ (kind = 6 ∨ seg = 0 ∧ keep = 0 ∧ age = 0 ∧ grace = 0))) := Lib.hid (fun h => h.1 h1)
    clear h1 e_bad1 e_produce e_named e_placed e_timed e_offl
    go_wp2_with fail
    go_ret
    exact ⟨_, rfl, iff_of_false Bool.false_ne_true HF.out, rfl⟩
  | false =>
  have HB1 : Hid (¬ (¬ kind = 1 ∧ (pid ≠ 0 ∨ 0 < n) ∨ ¬ kind = 1 ∧ ¬ kind = 11 ∧ seq ≠ 0 ∨ ¬ (kind = 3 ∨ kind = 4) ∧ ¬ group.size = 0)) := Lib.hid fun h => Bool.false_ne_true (e_bad1.out.2 h)
  clear e_bad1
  go_upto_region 9 with fail
  go_cut [117] (fun s wx => ∃ d, s = .bool d ∧ (d = true ↔ (¬ (kind = 2 ∨ kind = 3 ∨ kind = 8 ∨ kind = 11) ∧ off ≠ 0 ∨ kind ≠ 2 ∧ ¬ kind = 11 ∧ max ≠ 0 ∨ ¬ (kind = 5 ∨ kind = 8 ∨ kind = 9) ∧ now ≠ 0 ∨ ¬ kind = 11 ∧ sum ≠ 0)) ∧ wx = w.alloc (.cells #[.int .i64 kind, .int .i64 pid, .int .i64 seq, .slice A n cap, .string group, .int .i64 off, .int .i64 max, .int .i64 now, .int .u32 sum, .int .i64 seg, .int .i64 keep, .int .i64 age, .int .i64 grace] 27))
  case first =>
    cases placed with
    | true =>
      have h_placed : (kind = 2 ∨ kind = 3 ∨ kind = 8 ∨ kind = 11) := e_placed.out.1 rfl; clear e_placed
      by_cases h_nk2 : kind ≠ 2
      · have q_h_nk2 : (kind != 2) = true := by simpa using h_nk2
        cases offl with
        | true =>
          have h_offl : (kind = 11) := e_offl.out.1 rfl; clear e_offl
          cases timed with
          | true =>
            have h_timed : (kind = 5 ∨ kind = 8 ∨ kind = 9) := e_timed.out.1 rfl; clear e_timed
            have HF : Hid (¬ (¬ (kind = 2 ∨ kind = 3 ∨ kind = 8 ∨ kind = 11) ∧ off ≠ 0 ∨ kind ≠ 2 ∧ ¬ kind = 11 ∧ max ≠ 0 ∨ ¬ (kind = 5 ∨ kind = 8 ∨ kind = 9) ∧ now ≠ 0 ∨ ¬ kind = 11 ∧ sum ≠ 0)) := Lib.hid (fun k => k.elim (fun k => (fun k => k h_placed) k.1) (fun k => k.elim (fun k => (fun k => (fun k => k h_offl) k.1) k.2) (fun k => k.elim (fun k => (fun k => k h_timed) k.1) (fun k => (fun k => k h_offl) k.1))))
            clear h_placed h_nk2 h_offl h_timed
            as_aux_lemma =>
            go_wp2_with fail
            go_meet
            exact ⟨_, rfl, iff_of_false Bool.false_ne_true HF.out, rfl⟩
          | false =>
            have h_timed : ¬ (kind = 5 ∨ kind = 8 ∨ kind = 9) := (fun h => Bool.false_ne_true (e_timed.out.2 h)); clear e_timed
            by_cases h_now : now ≠ 0
            · have q_h_now : (now != 0) = true := by simpa using h_now
              have HF : Hid ((¬ (kind = 2 ∨ kind = 3 ∨ kind = 8 ∨ kind = 11) ∧ off ≠ 0 ∨ kind ≠ 2 ∧ ¬ kind = 11 ∧ max ≠ 0 ∨ ¬ (kind = 5 ∨ kind = 8 ∨ kind = 9) ∧ now ≠ 0 ∨ ¬ kind = 11 ∧ sum ≠ 0)) := Lib.hid (.inr (.inr (.inl ⟨h_timed, h_now⟩)))
              clear h_placed h_nk2 h_offl h_timed h_now
              as_aux_lemma =>
              go_wp2_with fail
              go_meet
              exact ⟨_, rfl, iff_of_true rfl HF.out, rfl⟩
            · have q_h_now : (now != 0) = false := by simpa using h_now
              have HF : Hid (¬ (¬ (kind = 2 ∨ kind = 3 ∨ kind = 8 ∨ kind = 11) ∧ off ≠ 0 ∨ kind ≠ 2 ∧ ¬ kind = 11 ∧ max ≠ 0 ∨ ¬ (kind = 5 ∨ kind = 8 ∨ kind = 9) ∧ now ≠ 0 ∨ ¬ kind = 11 ∧ sum ≠ 0)) := Lib.hid (fun k => k.elim (fun k => (fun k => k h_placed) k.1) (fun k => k.elim (fun k => (fun k => (fun k => k h_offl) k.1) k.2) (fun k => k.elim (fun k => h_now k.2) (fun k => (fun k => k h_offl) k.1))))
              clear h_placed h_nk2 h_offl h_timed h_now
              as_aux_lemma =>
              go_wp2_with fail
              go_meet
              exact ⟨_, rfl, iff_of_false Bool.false_ne_true HF.out, rfl⟩
        | false =>
          have h_offl : ¬ (kind = 11) := (fun h => Bool.false_ne_true (e_offl.out.2 h)); clear e_offl
          by_cases h_max : max ≠ 0
          · have q_h_max : (max != 0) = true := by simpa using h_max
            have HF : Hid ((¬ (kind = 2 ∨ kind = 3 ∨ kind = 8 ∨ kind = 11) ∧ off ≠ 0 ∨ kind ≠ 2 ∧ ¬ kind = 11 ∧ max ≠ 0 ∨ ¬ (kind = 5 ∨ kind = 8 ∨ kind = 9) ∧ now ≠ 0 ∨ ¬ kind = 11 ∧ sum ≠ 0)) := Lib.hid (.inr (.inl ⟨h_nk2, ⟨h_offl, h_max⟩⟩))
            clear h_placed h_nk2 h_offl h_max
            as_aux_lemma =>
            go_wp2_with fail
            go_meet
            exact ⟨_, rfl, iff_of_true rfl HF.out, rfl⟩
          · have q_h_max : (max != 0) = false := by simpa using h_max
            cases timed with
            | true =>
              have h_timed : (kind = 5 ∨ kind = 8 ∨ kind = 9) := e_timed.out.1 rfl; clear e_timed
              by_cases h_sum : sum ≠ 0
              · have q_h_sum : (sum != 0) = true := by simpa using h_sum
                have HF : Hid ((¬ (kind = 2 ∨ kind = 3 ∨ kind = 8 ∨ kind = 11) ∧ off ≠ 0 ∨ kind ≠ 2 ∧ ¬ kind = 11 ∧ max ≠ 0 ∨ ¬ (kind = 5 ∨ kind = 8 ∨ kind = 9) ∧ now ≠ 0 ∨ ¬ kind = 11 ∧ sum ≠ 0)) := Lib.hid (.inr (.inr (.inr ⟨h_offl, h_sum⟩)))
                clear h_placed h_nk2 h_offl h_max h_timed h_sum
                as_aux_lemma =>
                go_wp2_with fail
                go_meet
                exact ⟨_, rfl, iff_of_true rfl HF.out, rfl⟩
              · have q_h_sum : (sum != 0) = false := by simpa using h_sum
                have HF : Hid (¬ (¬ (kind = 2 ∨ kind = 3 ∨ kind = 8 ∨ kind = 11) ∧ off ≠ 0 ∨ kind ≠ 2 ∧ ¬ kind = 11 ∧ max ≠ 0 ∨ ¬ (kind = 5 ∨ kind = 8 ∨ kind = 9) ∧ now ≠ 0 ∨ ¬ kind = 11 ∧ sum ≠ 0)) := Lib.hid (fun k => k.elim (fun k => (fun k => k h_placed) k.1) (fun k => k.elim (fun k => (fun k => h_max k.2) k.2) (fun k => k.elim (fun k => (fun k => k h_timed) k.1) (fun k => h_sum k.2))))
                clear h_placed h_nk2 h_offl h_max h_timed h_sum
                as_aux_lemma =>
                go_wp2_with fail
                go_meet
                exact ⟨_, rfl, iff_of_false Bool.false_ne_true HF.out, rfl⟩
            | false =>
              have h_timed : ¬ (kind = 5 ∨ kind = 8 ∨ kind = 9) := (fun h => Bool.false_ne_true (e_timed.out.2 h)); clear e_timed
              by_cases h_now : now ≠ 0
              · have q_h_now : (now != 0) = true := by simpa using h_now
                have HF : Hid ((¬ (kind = 2 ∨ kind = 3 ∨ kind = 8 ∨ kind = 11) ∧ off ≠ 0 ∨ kind ≠ 2 ∧ ¬ kind = 11 ∧ max ≠ 0 ∨ ¬ (kind = 5 ∨ kind = 8 ∨ kind = 9) ∧ now ≠ 0 ∨ ¬ kind = 11 ∧ sum ≠ 0)) := Lib.hid (.inr (.inr (.inl ⟨h_timed, h_now⟩)))
                clear h_placed h_nk2 h_offl h_max h_timed h_now
                as_aux_lemma =>
                go_wp2_with fail
                go_meet
                exact ⟨_, rfl, iff_of_true rfl HF.out, rfl⟩
              · have q_h_now : (now != 0) = false := by simpa using h_now
                by_cases h_sum : sum ≠ 0
                · have q_h_sum : (sum != 0) = true := by simpa using h_sum
                  have HF : Hid ((¬ (kind = 2 ∨ kind = 3 ∨ kind = 8 ∨ kind = 11) ∧ off ≠ 0 ∨ kind ≠ 2 ∧ ¬ kind = 11 ∧ max ≠ 0 ∨ ¬ (kind = 5 ∨ kind = 8 ∨ kind = 9) ∧ now ≠ 0 ∨ ¬ kind = 11 ∧ sum ≠ 0)) := Lib.hid (.inr (.inr (.inr ⟨h_offl, h_sum⟩)))
                  clear h_placed h_nk2 h_offl h_max h_timed h_now h_sum
                  as_aux_lemma =>
                  go_wp2_with fail
                  go_meet
                  exact ⟨_, rfl, iff_of_true rfl HF.out, rfl⟩
                · have q_h_sum : (sum != 0) = false := by simpa using h_sum
                  have HF : Hid (¬ (¬ (kind = 2 ∨ kind = 3 ∨ kind = 8 ∨ kind = 11) ∧ off ≠ 0 ∨ kind ≠ 2 ∧ ¬ kind = 11 ∧ max ≠ 0 ∨ ¬ (kind = 5 ∨ kind = 8 ∨ kind = 9) ∧ now ≠ 0 ∨ ¬ kind = 11 ∧ sum ≠ 0)) := Lib.hid (fun k => k.elim (fun k => (fun k => k h_placed) k.1) (fun k => k.elim (fun k => (fun k => h_max k.2) k.2) (fun k => k.elim (fun k => h_now k.2) (fun k => h_sum k.2))))
                  clear h_placed h_nk2 h_offl h_max h_timed h_now h_sum
                  as_aux_lemma =>
                  go_wp2_with fail
                  go_meet
                  exact ⟨_, rfl, iff_of_false Bool.false_ne_true HF.out, rfl⟩
      · have q_h_nk2 : (kind != 2) = false := by simpa using h_nk2
        cases timed with
        | true =>
          have h_timed : (kind = 5 ∨ kind = 8 ∨ kind = 9) := e_timed.out.1 rfl; clear e_timed
          cases offl with
          | true =>
            have h_offl : (kind = 11) := e_offl.out.1 rfl; clear e_offl
            have HF : Hid (¬ (¬ (kind = 2 ∨ kind = 3 ∨ kind = 8 ∨ kind = 11) ∧ off ≠ 0 ∨ kind ≠ 2 ∧ ¬ kind = 11 ∧ max ≠ 0 ∨ ¬ (kind = 5 ∨ kind = 8 ∨ kind = 9) ∧ now ≠ 0 ∨ ¬ kind = 11 ∧ sum ≠ 0)) := Lib.hid (fun k => k.elim (fun k => (fun k => k h_placed) k.1) (fun k => k.elim (fun k => h_nk2 k.1) (fun k => k.elim (fun k => (fun k => k h_timed) k.1) (fun k => (fun k => k h_offl) k.1))))
            clear h_placed h_nk2 h_timed h_offl
            as_aux_lemma =>
            go_wp2_with fail
            go_meet
            exact ⟨_, rfl, iff_of_false Bool.false_ne_true HF.out, rfl⟩
          | false =>
            have h_offl : ¬ (kind = 11) := (fun h => Bool.false_ne_true (e_offl.out.2 h)); clear e_offl
            by_cases h_sum : sum ≠ 0
            · have q_h_sum : (sum != 0) = true := by simpa using h_sum
              have HF : Hid ((¬ (kind = 2 ∨ kind = 3 ∨ kind = 8 ∨ kind = 11) ∧ off ≠ 0 ∨ kind ≠ 2 ∧ ¬ kind = 11 ∧ max ≠ 0 ∨ ¬ (kind = 5 ∨ kind = 8 ∨ kind = 9) ∧ now ≠ 0 ∨ ¬ kind = 11 ∧ sum ≠ 0)) := Lib.hid (.inr (.inr (.inr ⟨h_offl, h_sum⟩)))
              clear h_placed h_nk2 h_timed h_offl h_sum
              as_aux_lemma =>
              go_wp2_with fail
              go_meet
              exact ⟨_, rfl, iff_of_true rfl HF.out, rfl⟩
            · have q_h_sum : (sum != 0) = false := by simpa using h_sum
              have HF : Hid (¬ (¬ (kind = 2 ∨ kind = 3 ∨ kind = 8 ∨ kind = 11) ∧ off ≠ 0 ∨ kind ≠ 2 ∧ ¬ kind = 11 ∧ max ≠ 0 ∨ ¬ (kind = 5 ∨ kind = 8 ∨ kind = 9) ∧ now ≠ 0 ∨ ¬ kind = 11 ∧ sum ≠ 0)) := Lib.hid (fun k => k.elim (fun k => (fun k => k h_placed) k.1) (fun k => k.elim (fun k => h_nk2 k.1) (fun k => k.elim (fun k => (fun k => k h_timed) k.1) (fun k => h_sum k.2))))
              clear h_placed h_nk2 h_timed h_offl h_sum
              as_aux_lemma =>
              go_wp2_with fail
              go_meet
              exact ⟨_, rfl, iff_of_false Bool.false_ne_true HF.out, rfl⟩
        | false =>
          have h_timed : ¬ (kind = 5 ∨ kind = 8 ∨ kind = 9) := (fun h => Bool.false_ne_true (e_timed.out.2 h)); clear e_timed
          by_cases h_now : now ≠ 0
          · have q_h_now : (now != 0) = true := by simpa using h_now
            have HF : Hid ((¬ (kind = 2 ∨ kind = 3 ∨ kind = 8 ∨ kind = 11) ∧ off ≠ 0 ∨ kind ≠ 2 ∧ ¬ kind = 11 ∧ max ≠ 0 ∨ ¬ (kind = 5 ∨ kind = 8 ∨ kind = 9) ∧ now ≠ 0 ∨ ¬ kind = 11 ∧ sum ≠ 0)) := Lib.hid (.inr (.inr (.inl ⟨h_timed, h_now⟩)))
            clear h_placed h_nk2 h_timed h_now
            as_aux_lemma =>
            go_wp2_with fail
            go_meet
            exact ⟨_, rfl, iff_of_true rfl HF.out, rfl⟩
          · have q_h_now : (now != 0) = false := by simpa using h_now
            cases offl with
            | true =>
              have h_offl : (kind = 11) := e_offl.out.1 rfl; clear e_offl
              have HF : Hid (¬ (¬ (kind = 2 ∨ kind = 3 ∨ kind = 8 ∨ kind = 11) ∧ off ≠ 0 ∨ kind ≠ 2 ∧ ¬ kind = 11 ∧ max ≠ 0 ∨ ¬ (kind = 5 ∨ kind = 8 ∨ kind = 9) ∧ now ≠ 0 ∨ ¬ kind = 11 ∧ sum ≠ 0)) := Lib.hid (fun k => k.elim (fun k => (fun k => k h_placed) k.1) (fun k => k.elim (fun k => h_nk2 k.1) (fun k => k.elim (fun k => h_now k.2) (fun k => (fun k => k h_offl) k.1))))
              clear h_placed h_nk2 h_timed h_now h_offl
              as_aux_lemma =>
              go_wp2_with fail
              go_meet
              exact ⟨_, rfl, iff_of_false Bool.false_ne_true HF.out, rfl⟩
            | false =>
              have h_offl : ¬ (kind = 11) := (fun h => Bool.false_ne_true (e_offl.out.2 h)); clear e_offl
              by_cases h_sum : sum ≠ 0
              · have q_h_sum : (sum != 0) = true := by simpa using h_sum
                have HF : Hid ((¬ (kind = 2 ∨ kind = 3 ∨ kind = 8 ∨ kind = 11) ∧ off ≠ 0 ∨ kind ≠ 2 ∧ ¬ kind = 11 ∧ max ≠ 0 ∨ ¬ (kind = 5 ∨ kind = 8 ∨ kind = 9) ∧ now ≠ 0 ∨ ¬ kind = 11 ∧ sum ≠ 0)) := Lib.hid (.inr (.inr (.inr ⟨h_offl, h_sum⟩)))
                clear h_placed h_nk2 h_timed h_now h_offl h_sum
                as_aux_lemma =>
                go_wp2_with fail
                go_meet
                exact ⟨_, rfl, iff_of_true rfl HF.out, rfl⟩
              · have q_h_sum : (sum != 0) = false := by simpa using h_sum
                have HF : Hid (¬ (¬ (kind = 2 ∨ kind = 3 ∨ kind = 8 ∨ kind = 11) ∧ off ≠ 0 ∨ kind ≠ 2 ∧ ¬ kind = 11 ∧ max ≠ 0 ∨ ¬ (kind = 5 ∨ kind = 8 ∨ kind = 9) ∧ now ≠ 0 ∨ ¬ kind = 11 ∧ sum ≠ 0)) := Lib.hid (fun k => k.elim (fun k => (fun k => k h_placed) k.1) (fun k => k.elim (fun k => h_nk2 k.1) (fun k => k.elim (fun k => h_now k.2) (fun k => h_sum k.2))))
                clear h_placed h_nk2 h_timed h_now h_offl h_sum
                as_aux_lemma =>
                go_wp2_with fail
                go_meet
                exact ⟨_, rfl, iff_of_false Bool.false_ne_true HF.out, rfl⟩
    | false =>
      have h_placed : ¬ (kind = 2 ∨ kind = 3 ∨ kind = 8 ∨ kind = 11) := (fun h => Bool.false_ne_true (e_placed.out.2 h)); clear e_placed
      by_cases h_off : off ≠ 0
      · have q_h_off : (off != 0) = true := by simpa using h_off
        have HF : Hid ((¬ (kind = 2 ∨ kind = 3 ∨ kind = 8 ∨ kind = 11) ∧ off ≠ 0 ∨ kind ≠ 2 ∧ ¬ kind = 11 ∧ max ≠ 0 ∨ ¬ (kind = 5 ∨ kind = 8 ∨ kind = 9) ∧ now ≠ 0 ∨ ¬ kind = 11 ∧ sum ≠ 0)) := Lib.hid (.inl ⟨h_placed, h_off⟩)
        clear h_placed h_off
        as_aux_lemma =>
        go_wp2_with fail
        go_meet
        exact ⟨_, rfl, iff_of_true rfl HF.out, rfl⟩
      · have q_h_off : (off != 0) = false := by simpa using h_off
        by_cases h_nk2 : kind ≠ 2
        · have q_h_nk2 : (kind != 2) = true := by simpa using h_nk2
          cases offl with
          | true =>
            have h_offl : (kind = 11) := e_offl.out.1 rfl; clear e_offl
            cases timed with
            | true =>
              have h_timed : (kind = 5 ∨ kind = 8 ∨ kind = 9) := e_timed.out.1 rfl; clear e_timed
              have HF : Hid (¬ (¬ (kind = 2 ∨ kind = 3 ∨ kind = 8 ∨ kind = 11) ∧ off ≠ 0 ∨ kind ≠ 2 ∧ ¬ kind = 11 ∧ max ≠ 0 ∨ ¬ (kind = 5 ∨ kind = 8 ∨ kind = 9) ∧ now ≠ 0 ∨ ¬ kind = 11 ∧ sum ≠ 0)) := Lib.hid (fun k => k.elim (fun k => h_off k.2) (fun k => k.elim (fun k => (fun k => (fun k => k h_offl) k.1) k.2) (fun k => k.elim (fun k => (fun k => k h_timed) k.1) (fun k => (fun k => k h_offl) k.1))))
              clear h_placed h_off h_nk2 h_offl h_timed
              as_aux_lemma =>
              go_wp2_with fail
              go_meet
              exact ⟨_, rfl, iff_of_false Bool.false_ne_true HF.out, rfl⟩
            | false =>
              have h_timed : ¬ (kind = 5 ∨ kind = 8 ∨ kind = 9) := (fun h => Bool.false_ne_true (e_timed.out.2 h)); clear e_timed
              by_cases h_now : now ≠ 0
              · have q_h_now : (now != 0) = true := by simpa using h_now
                have HF : Hid ((¬ (kind = 2 ∨ kind = 3 ∨ kind = 8 ∨ kind = 11) ∧ off ≠ 0 ∨ kind ≠ 2 ∧ ¬ kind = 11 ∧ max ≠ 0 ∨ ¬ (kind = 5 ∨ kind = 8 ∨ kind = 9) ∧ now ≠ 0 ∨ ¬ kind = 11 ∧ sum ≠ 0)) := Lib.hid (.inr (.inr (.inl ⟨h_timed, h_now⟩)))
                clear h_placed h_off h_nk2 h_offl h_timed h_now
                as_aux_lemma =>
                go_wp2_with fail
                go_meet
                exact ⟨_, rfl, iff_of_true rfl HF.out, rfl⟩
              · have q_h_now : (now != 0) = false := by simpa using h_now
                have HF : Hid (¬ (¬ (kind = 2 ∨ kind = 3 ∨ kind = 8 ∨ kind = 11) ∧ off ≠ 0 ∨ kind ≠ 2 ∧ ¬ kind = 11 ∧ max ≠ 0 ∨ ¬ (kind = 5 ∨ kind = 8 ∨ kind = 9) ∧ now ≠ 0 ∨ ¬ kind = 11 ∧ sum ≠ 0)) := Lib.hid (fun k => k.elim (fun k => h_off k.2) (fun k => k.elim (fun k => (fun k => (fun k => k h_offl) k.1) k.2) (fun k => k.elim (fun k => h_now k.2) (fun k => (fun k => k h_offl) k.1))))
                clear h_placed h_off h_nk2 h_offl h_timed h_now
                as_aux_lemma =>
                go_wp2_with fail
                go_meet
                exact ⟨_, rfl, iff_of_false Bool.false_ne_true HF.out, rfl⟩
          | false =>
            have h_offl : ¬ (kind = 11) := (fun h => Bool.false_ne_true (e_offl.out.2 h)); clear e_offl
            by_cases h_max : max ≠ 0
            · have q_h_max : (max != 0) = true := by simpa using h_max
              have HF : Hid ((¬ (kind = 2 ∨ kind = 3 ∨ kind = 8 ∨ kind = 11) ∧ off ≠ 0 ∨ kind ≠ 2 ∧ ¬ kind = 11 ∧ max ≠ 0 ∨ ¬ (kind = 5 ∨ kind = 8 ∨ kind = 9) ∧ now ≠ 0 ∨ ¬ kind = 11 ∧ sum ≠ 0)) := Lib.hid (.inr (.inl ⟨h_nk2, ⟨h_offl, h_max⟩⟩))
              clear h_placed h_off h_nk2 h_offl h_max
              as_aux_lemma =>
              go_wp2_with fail
              go_meet
              exact ⟨_, rfl, iff_of_true rfl HF.out, rfl⟩
            · have q_h_max : (max != 0) = false := by simpa using h_max
              cases timed with
              | true =>
                have h_timed : (kind = 5 ∨ kind = 8 ∨ kind = 9) := e_timed.out.1 rfl; clear e_timed
                by_cases h_sum : sum ≠ 0
                · have q_h_sum : (sum != 0) = true := by simpa using h_sum
                  have HF : Hid ((¬ (kind = 2 ∨ kind = 3 ∨ kind = 8 ∨ kind = 11) ∧ off ≠ 0 ∨ kind ≠ 2 ∧ ¬ kind = 11 ∧ max ≠ 0 ∨ ¬ (kind = 5 ∨ kind = 8 ∨ kind = 9) ∧ now ≠ 0 ∨ ¬ kind = 11 ∧ sum ≠ 0)) := Lib.hid (.inr (.inr (.inr ⟨h_offl, h_sum⟩)))
                  clear h_placed h_off h_nk2 h_offl h_max h_timed h_sum
                  as_aux_lemma =>
                  go_wp2_with fail
                  go_meet
                  exact ⟨_, rfl, iff_of_true rfl HF.out, rfl⟩
                · have q_h_sum : (sum != 0) = false := by simpa using h_sum
                  have HF : Hid (¬ (¬ (kind = 2 ∨ kind = 3 ∨ kind = 8 ∨ kind = 11) ∧ off ≠ 0 ∨ kind ≠ 2 ∧ ¬ kind = 11 ∧ max ≠ 0 ∨ ¬ (kind = 5 ∨ kind = 8 ∨ kind = 9) ∧ now ≠ 0 ∨ ¬ kind = 11 ∧ sum ≠ 0)) := Lib.hid (fun k => k.elim (fun k => h_off k.2) (fun k => k.elim (fun k => (fun k => h_max k.2) k.2) (fun k => k.elim (fun k => (fun k => k h_timed) k.1) (fun k => h_sum k.2))))
                  clear h_placed h_off h_nk2 h_offl h_max h_timed h_sum
                  as_aux_lemma =>
                  go_wp2_with fail
                  go_meet
                  exact ⟨_, rfl, iff_of_false Bool.false_ne_true HF.out, rfl⟩
              | false =>
                have h_timed : ¬ (kind = 5 ∨ kind = 8 ∨ kind = 9) := (fun h => Bool.false_ne_true (e_timed.out.2 h)); clear e_timed
                by_cases h_now : now ≠ 0
                · have q_h_now : (now != 0) = true := by simpa using h_now
                  have HF : Hid ((¬ (kind = 2 ∨ kind = 3 ∨ kind = 8 ∨ kind = 11) ∧ off ≠ 0 ∨ kind ≠ 2 ∧ ¬ kind = 11 ∧ max ≠ 0 ∨ ¬ (kind = 5 ∨ kind = 8 ∨ kind = 9) ∧ now ≠ 0 ∨ ¬ kind = 11 ∧ sum ≠ 0)) := Lib.hid (.inr (.inr (.inl ⟨h_timed, h_now⟩)))
                  clear h_placed h_off h_nk2 h_offl h_max h_timed h_now
                  as_aux_lemma =>
                  go_wp2_with fail
                  go_meet
                  exact ⟨_, rfl, iff_of_true rfl HF.out, rfl⟩
                · have q_h_now : (now != 0) = false := by simpa using h_now
                  by_cases h_sum : sum ≠ 0
                  · have q_h_sum : (sum != 0) = true := by simpa using h_sum
                    have HF : Hid ((¬ (kind = 2 ∨ kind = 3 ∨ kind = 8 ∨ kind = 11) ∧ off ≠ 0 ∨ kind ≠ 2 ∧ ¬ kind = 11 ∧ max ≠ 0 ∨ ¬ (kind = 5 ∨ kind = 8 ∨ kind = 9) ∧ now ≠ 0 ∨ ¬ kind = 11 ∧ sum ≠ 0)) := Lib.hid (.inr (.inr (.inr ⟨h_offl, h_sum⟩)))
                    clear h_placed h_off h_nk2 h_offl h_max h_timed h_now h_sum
                    as_aux_lemma =>
                    go_wp2_with fail
                    go_meet
                    exact ⟨_, rfl, iff_of_true rfl HF.out, rfl⟩
                  · have q_h_sum : (sum != 0) = false := by simpa using h_sum
                    have HF : Hid (¬ (¬ (kind = 2 ∨ kind = 3 ∨ kind = 8 ∨ kind = 11) ∧ off ≠ 0 ∨ kind ≠ 2 ∧ ¬ kind = 11 ∧ max ≠ 0 ∨ ¬ (kind = 5 ∨ kind = 8 ∨ kind = 9) ∧ now ≠ 0 ∨ ¬ kind = 11 ∧ sum ≠ 0)) := Lib.hid (fun k => k.elim (fun k => h_off k.2) (fun k => k.elim (fun k => (fun k => h_max k.2) k.2) (fun k => k.elim (fun k => h_now k.2) (fun k => h_sum k.2))))
                    clear h_placed h_off h_nk2 h_offl h_max h_timed h_now h_sum
                    as_aux_lemma =>
                    go_wp2_with fail
                    go_meet
                    exact ⟨_, rfl, iff_of_false Bool.false_ne_true HF.out, rfl⟩
        · have q_h_nk2 : (kind != 2) = false := by simpa using h_nk2
          cases timed with
          | true =>
            have h_timed : (kind = 5 ∨ kind = 8 ∨ kind = 9) := e_timed.out.1 rfl; clear e_timed
            cases offl with
            | true =>
              have h_offl : (kind = 11) := e_offl.out.1 rfl; clear e_offl
              have HF : Hid (¬ (¬ (kind = 2 ∨ kind = 3 ∨ kind = 8 ∨ kind = 11) ∧ off ≠ 0 ∨ kind ≠ 2 ∧ ¬ kind = 11 ∧ max ≠ 0 ∨ ¬ (kind = 5 ∨ kind = 8 ∨ kind = 9) ∧ now ≠ 0 ∨ ¬ kind = 11 ∧ sum ≠ 0)) := Lib.hid (fun k => k.elim (fun k => h_off k.2) (fun k => k.elim (fun k => h_nk2 k.1) (fun k => k.elim (fun k => (fun k => k h_timed) k.1) (fun k => (fun k => k h_offl) k.1))))
              clear h_placed h_off h_nk2 h_timed h_offl
              as_aux_lemma =>
              go_wp2_with fail
              go_meet
              exact ⟨_, rfl, iff_of_false Bool.false_ne_true HF.out, rfl⟩
            | false =>
              have h_offl : ¬ (kind = 11) := (fun h => Bool.false_ne_true (e_offl.out.2 h)); clear e_offl
              by_cases h_sum : sum ≠ 0
              · have q_h_sum : (sum != 0) = true := by simpa using h_sum
                have HF : Hid ((¬ (kind = 2 ∨ kind = 3 ∨ kind = 8 ∨ kind = 11) ∧ off ≠ 0 ∨ kind ≠ 2 ∧ ¬ kind = 11 ∧ max ≠ 0 ∨ ¬ (kind = 5 ∨ kind = 8 ∨ kind = 9) ∧ now ≠ 0 ∨ ¬ kind = 11 ∧ sum ≠ 0)) := Lib.hid (.inr (.inr (.inr ⟨h_offl, h_sum⟩)))
                clear h_placed h_off h_nk2 h_timed h_offl h_sum
                as_aux_lemma =>
                go_wp2_with fail
                go_meet
                exact ⟨_, rfl, iff_of_true rfl HF.out, rfl⟩
              · have q_h_sum : (sum != 0) = false := by simpa using h_sum
                have HF : Hid (¬ (¬ (kind = 2 ∨ kind = 3 ∨ kind = 8 ∨ kind = 11) ∧ off ≠ 0 ∨ kind ≠ 2 ∧ ¬ kind = 11 ∧ max ≠ 0 ∨ ¬ (kind = 5 ∨ kind = 8 ∨ kind = 9) ∧ now ≠ 0 ∨ ¬ kind = 11 ∧ sum ≠ 0)) := Lib.hid (fun k => k.elim (fun k => h_off k.2) (fun k => k.elim (fun k => h_nk2 k.1) (fun k => k.elim (fun k => (fun k => k h_timed) k.1) (fun k => h_sum k.2))))
                clear h_placed h_off h_nk2 h_timed h_offl h_sum
                as_aux_lemma =>
                go_wp2_with fail
                go_meet
                exact ⟨_, rfl, iff_of_false Bool.false_ne_true HF.out, rfl⟩
          | false =>
            have h_timed : ¬ (kind = 5 ∨ kind = 8 ∨ kind = 9) := (fun h => Bool.false_ne_true (e_timed.out.2 h)); clear e_timed
            by_cases h_now : now ≠ 0
            · have q_h_now : (now != 0) = true := by simpa using h_now
              have HF : Hid ((¬ (kind = 2 ∨ kind = 3 ∨ kind = 8 ∨ kind = 11) ∧ off ≠ 0 ∨ kind ≠ 2 ∧ ¬ kind = 11 ∧ max ≠ 0 ∨ ¬ (kind = 5 ∨ kind = 8 ∨ kind = 9) ∧ now ≠ 0 ∨ ¬ kind = 11 ∧ sum ≠ 0)) := Lib.hid (.inr (.inr (.inl ⟨h_timed, h_now⟩)))
              clear h_placed h_off h_nk2 h_timed h_now
              as_aux_lemma =>
              go_wp2_with fail
              go_meet
              exact ⟨_, rfl, iff_of_true rfl HF.out, rfl⟩
            · have q_h_now : (now != 0) = false := by simpa using h_now
              cases offl with
              | true =>
                have h_offl : (kind = 11) := e_offl.out.1 rfl; clear e_offl
                have HF : Hid (¬ (¬ (kind = 2 ∨ kind = 3 ∨ kind = 8 ∨ kind = 11) ∧ off ≠ 0 ∨ kind ≠ 2 ∧ ¬ kind = 11 ∧ max ≠ 0 ∨ ¬ (kind = 5 ∨ kind = 8 ∨ kind = 9) ∧ now ≠ 0 ∨ ¬ kind = 11 ∧ sum ≠ 0)) := Lib.hid (fun k => k.elim (fun k => h_off k.2) (fun k => k.elim (fun k => h_nk2 k.1) (fun k => k.elim (fun k => h_now k.2) (fun k => (fun k => k h_offl) k.1))))
                clear h_placed h_off h_nk2 h_timed h_now h_offl
                as_aux_lemma =>
                go_wp2_with fail
                go_meet
                exact ⟨_, rfl, iff_of_false Bool.false_ne_true HF.out, rfl⟩
              | false =>
                have h_offl : ¬ (kind = 11) := (fun h => Bool.false_ne_true (e_offl.out.2 h)); clear e_offl
                by_cases h_sum : sum ≠ 0
                · have q_h_sum : (sum != 0) = true := by simpa using h_sum
                  have HF : Hid ((¬ (kind = 2 ∨ kind = 3 ∨ kind = 8 ∨ kind = 11) ∧ off ≠ 0 ∨ kind ≠ 2 ∧ ¬ kind = 11 ∧ max ≠ 0 ∨ ¬ (kind = 5 ∨ kind = 8 ∨ kind = 9) ∧ now ≠ 0 ∨ ¬ kind = 11 ∧ sum ≠ 0)) := Lib.hid (.inr (.inr (.inr ⟨h_offl, h_sum⟩)))
                  clear h_placed h_off h_nk2 h_timed h_now h_offl h_sum
                  as_aux_lemma =>
                  go_wp2_with fail
                  go_meet
                  exact ⟨_, rfl, iff_of_true rfl HF.out, rfl⟩
                · have q_h_sum : (sum != 0) = false := by simpa using h_sum
                  have HF : Hid (¬ (¬ (kind = 2 ∨ kind = 3 ∨ kind = 8 ∨ kind = 11) ∧ off ≠ 0 ∨ kind ≠ 2 ∧ ¬ kind = 11 ∧ max ≠ 0 ∨ ¬ (kind = 5 ∨ kind = 8 ∨ kind = 9) ∧ now ≠ 0 ∨ ¬ kind = 11 ∧ sum ≠ 0)) := Lib.hid (fun k => k.elim (fun k => h_off k.2) (fun k => k.elim (fun k => h_nk2 k.1) (fun k => k.elim (fun k => h_now k.2) (fun k => h_sum k.2))))
                  clear h_placed h_off h_nk2 h_timed h_now h_offl h_sum
                  as_aux_lemma =>
                  go_wp2_with fail
                  go_meet
                  exact ⟨_, rfl, iff_of_false Bool.false_ne_true HF.out, rfl⟩
  case rest =>
  obtain ⟨bad2, rfl, e0_bad2, rfl⟩ := hcut
  have e_bad2 := Lib.hid e0_bad2
  clear e0_bad2
  cases bad2 with
  | true =>
    have h1 := e_bad2.out.1 rfl
    have HF : Hid (¬ (¬ (¬ kind = 1 ∧ (pid ≠ 0 ∨ 0 < n) ∨ ¬ kind = 1 ∧ ¬ kind = 11 ∧ seq ≠ 0 ∨ ¬ (kind = 3 ∨ kind = 4) ∧ ¬ group.size = 0) ∧ ¬ (¬ (kind = 2 ∨ kind = 3 ∨ kind = 8 ∨ kind = 11) ∧ off ≠ 0 ∨ kind ≠ 2 ∧ ¬ kind = 11 ∧ max ≠ 0 ∨ ¬ (kind = 5 ∨ kind = 8 ∨ kind = 9) ∧ now ≠ 0 ∨ ¬ kind = 11 ∧ sum ≠ 0) ∧ (kind = 6 ∨ seg = 0 ∧ keep = 0 ∧ age = 0 ∧ grace = 0))) := Lib.hid (fun h => h.2.1 h1)
    clear h1 e_bad2 e_produce e_named e_placed e_timed e_offl
    go_wp2_with fail
    go_ret
    exact ⟨_, rfl, iff_of_false Bool.false_ne_true HF.out, rfl⟩
  | false =>
  have HB2 : Hid (¬ (¬ (kind = 2 ∨ kind = 3 ∨ kind = 8 ∨ kind = 11) ∧ off ≠ 0 ∨ kind ≠ 2 ∧ ¬ kind = 11 ∧ max ≠ 0 ∨ ¬ (kind = 5 ∨ kind = 8 ∨ kind = 9) ∧ now ≠ 0 ∨ ¬ kind = 11 ∧ sum ≠ 0)) := Lib.hid fun h => Bool.false_ne_true (e_bad2.out.2 h)
  clear e_bad2 e_produce e_named e_placed e_timed e_offl
  by_cases h_k6 : kind = 6
  · have q_h_k6 : (kind == 6) = true := by simp [h_k6]
    have HF : Hid (¬ (¬ kind = 1 ∧ (pid ≠ 0 ∨ 0 < n) ∨ ¬ kind = 1 ∧ ¬ kind = 11 ∧ seq ≠ 0 ∨ ¬ (kind = 3 ∨ kind = 4) ∧ ¬ group.size = 0) ∧ ¬ (¬ (kind = 2 ∨ kind = 3 ∨ kind = 8 ∨ kind = 11) ∧ off ≠ 0 ∨ kind ≠ 2 ∧ ¬ kind = 11 ∧ max ≠ 0 ∨ ¬ (kind = 5 ∨ kind = 8 ∨ kind = 9) ∧ now ≠ 0 ∨ ¬ kind = 11 ∧ sum ≠ 0) ∧ (kind = 6 ∨ seg = 0 ∧ keep = 0 ∧ age = 0 ∧ grace = 0)) := Lib.hid ⟨HB1.out, HB2.out, (.inl h_k6)⟩
    clear h_k6
    as_aux_lemma =>
    go_wp2_with fail
    go_ret
    exact ⟨_, rfl, iff_of_true rfl HF.out, rfl⟩
  · have q_h_k6 : (kind == 6) = false := by simp [h_k6]
    by_cases h_sg : seg = 0
    · have q_h_sg : (seg == 0) = true := by simp [h_sg]
      by_cases h_kp : keep = 0
      · have q_h_kp : (keep == 0) = true := by simp [h_kp]
        by_cases h_ag : age = 0
        · have q_h_ag : (age == 0) = true := by simp [h_ag]
          by_cases h_gr : grace = 0
          · have q_h_gr : (grace == 0) = true := by simp [h_gr]
            have HF : Hid (¬ (¬ kind = 1 ∧ (pid ≠ 0 ∨ 0 < n) ∨ ¬ kind = 1 ∧ ¬ kind = 11 ∧ seq ≠ 0 ∨ ¬ (kind = 3 ∨ kind = 4) ∧ ¬ group.size = 0) ∧ ¬ (¬ (kind = 2 ∨ kind = 3 ∨ kind = 8 ∨ kind = 11) ∧ off ≠ 0 ∨ kind ≠ 2 ∧ ¬ kind = 11 ∧ max ≠ 0 ∨ ¬ (kind = 5 ∨ kind = 8 ∨ kind = 9) ∧ now ≠ 0 ∨ ¬ kind = 11 ∧ sum ≠ 0) ∧ (kind = 6 ∨ seg = 0 ∧ keep = 0 ∧ age = 0 ∧ grace = 0)) := Lib.hid ⟨HB1.out, HB2.out, (.inr ⟨h_sg, ⟨h_kp, ⟨h_ag, h_gr⟩⟩⟩)⟩
            clear h_k6 h_sg h_kp h_ag h_gr
            as_aux_lemma =>
            go_wp2_with fail
            go_ret
            exact ⟨_, rfl, iff_of_true rfl HF.out, rfl⟩
          · have q_h_gr : (grace == 0) = false := by simp [h_gr]
            have HF : Hid (¬ (¬ (¬ kind = 1 ∧ (pid ≠ 0 ∨ 0 < n) ∨ ¬ kind = 1 ∧ ¬ kind = 11 ∧ seq ≠ 0 ∨ ¬ (kind = 3 ∨ kind = 4) ∧ ¬ group.size = 0) ∧ ¬ (¬ (kind = 2 ∨ kind = 3 ∨ kind = 8 ∨ kind = 11) ∧ off ≠ 0 ∨ kind ≠ 2 ∧ ¬ kind = 11 ∧ max ≠ 0 ∨ ¬ (kind = 5 ∨ kind = 8 ∨ kind = 9) ∧ now ≠ 0 ∨ ¬ kind = 11 ∧ sum ≠ 0) ∧ (kind = 6 ∨ seg = 0 ∧ keep = 0 ∧ age = 0 ∧ grace = 0))) := Lib.hid fun h => (fun k => k.elim h_k6 (fun k => (fun k => (fun k => h_gr k.2) k.2) k.2)) h.2.2
            clear h_k6 h_sg h_kp h_ag h_gr
            as_aux_lemma =>
            go_wp2_with fail
            go_ret
            exact ⟨_, rfl, iff_of_false Bool.false_ne_true HF.out, rfl⟩
        · have q_h_ag : (age == 0) = false := by simp [h_ag]
          have HF : Hid (¬ (¬ (¬ kind = 1 ∧ (pid ≠ 0 ∨ 0 < n) ∨ ¬ kind = 1 ∧ ¬ kind = 11 ∧ seq ≠ 0 ∨ ¬ (kind = 3 ∨ kind = 4) ∧ ¬ group.size = 0) ∧ ¬ (¬ (kind = 2 ∨ kind = 3 ∨ kind = 8 ∨ kind = 11) ∧ off ≠ 0 ∨ kind ≠ 2 ∧ ¬ kind = 11 ∧ max ≠ 0 ∨ ¬ (kind = 5 ∨ kind = 8 ∨ kind = 9) ∧ now ≠ 0 ∨ ¬ kind = 11 ∧ sum ≠ 0) ∧ (kind = 6 ∨ seg = 0 ∧ keep = 0 ∧ age = 0 ∧ grace = 0))) := Lib.hid fun h => (fun k => k.elim h_k6 (fun k => (fun k => (fun k => h_ag k.1) k.2) k.2)) h.2.2
          clear h_k6 h_sg h_kp h_ag
          as_aux_lemma =>
          go_wp2_with fail
          go_ret
          exact ⟨_, rfl, iff_of_false Bool.false_ne_true HF.out, rfl⟩
      · have q_h_kp : (keep == 0) = false := by simp [h_kp]
        have HF : Hid (¬ (¬ (¬ kind = 1 ∧ (pid ≠ 0 ∨ 0 < n) ∨ ¬ kind = 1 ∧ ¬ kind = 11 ∧ seq ≠ 0 ∨ ¬ (kind = 3 ∨ kind = 4) ∧ ¬ group.size = 0) ∧ ¬ (¬ (kind = 2 ∨ kind = 3 ∨ kind = 8 ∨ kind = 11) ∧ off ≠ 0 ∨ kind ≠ 2 ∧ ¬ kind = 11 ∧ max ≠ 0 ∨ ¬ (kind = 5 ∨ kind = 8 ∨ kind = 9) ∧ now ≠ 0 ∨ ¬ kind = 11 ∧ sum ≠ 0) ∧ (kind = 6 ∨ seg = 0 ∧ keep = 0 ∧ age = 0 ∧ grace = 0))) := Lib.hid fun h => (fun k => k.elim h_k6 (fun k => (fun k => h_kp k.1) k.2)) h.2.2
        clear h_k6 h_sg h_kp
        as_aux_lemma =>
        go_wp2_with fail
        go_ret
        exact ⟨_, rfl, iff_of_false Bool.false_ne_true HF.out, rfl⟩
    · have q_h_sg : (seg == 0) = false := by simp [h_sg]
      have HF : Hid (¬ (¬ (¬ kind = 1 ∧ (pid ≠ 0 ∨ 0 < n) ∨ ¬ kind = 1 ∧ ¬ kind = 11 ∧ seq ≠ 0 ∨ ¬ (kind = 3 ∨ kind = 4) ∧ ¬ group.size = 0) ∧ ¬ (¬ (kind = 2 ∨ kind = 3 ∨ kind = 8 ∨ kind = 11) ∧ off ≠ 0 ∨ kind ≠ 2 ∧ ¬ kind = 11 ∧ max ≠ 0 ∨ ¬ (kind = 5 ∨ kind = 8 ∨ kind = 9) ∧ now ≠ 0 ∨ ¬ kind = 11 ∧ sum ≠ 0) ∧ (kind = 6 ∨ seg = 0 ∧ keep = 0 ∧ age = 0 ∧ grace = 0))) := Lib.hid fun h => (fun k => k.elim h_k6 (fun k => h_sg k.1)) h.2.2
      clear h_k6 h_sg
      as_aux_lemma =>
      go_wp2_with fail
      go_ret
      exact ⟨_, rfl, iff_of_false Bool.false_ne_true HF.out, rfl⟩
end Go.Proofs.YtiglignfjegilaaDoor
