/- A contract of the program's own Same of commands. -/
import Derived.Test.YtiglignfjegilaaDoorCmdBase
import Derived.Test.YtiglignfjegilaaDoorVEqual
import Derived.Deep.DeepCutAuto
namespace Go.Proofs.YtiglignfjegilaaDoor
open Go.RowKit

theorem below_drawing {B : Nat} {w w' : World} (h : Below B w w') (m : Nat) : Below B w (w'.drewN m) := ⟨h.os, h.tape, h.output, h.size, h.block⟩
set_option maxRecDepth 100000 in
set_option maxHeartbeats 4000000 in
theorem vcsame_any (w : World) (a b : Cmd) (A1 A2 : Option Addr) (c1 c2 : Nat) (h1 : RecsLie w A1 a.recs c1) (h2 : RecsLie w A2 b.recs c2) :
    Calls Tryd.prog 15 #[cmdV (.slice A1 a.recs.length c1) a, cmdV (.slice A2 b.recs.length c2) b] w (fun e w' => ∃ d, e = .returned (.bool d) ∧ (d = true ↔ a = b) ∧ Below w.heap.size w w') := by
  have HB := Lib.hid (((Below.refl w.heap.size w).alloc (Nat.le_refl _) (cmdO (.slice A1 a.recs.length c1) a)).alloc (by simp) (cmdO (.slice A2 b.recs.length c2) b))
  have HS := Lib.hid (equal_any _ a.recs b.recs A1 A2 c1 c2 (h1.below HB.out (Nat.le_refl _)) (h2.below HB.out (Nat.le_refl _)))
  clear h1 h2
  obtain ⟨ak, ap, aq, ar, ag, ao, am, an, au, a1, a2, a3, a4⟩ := a
  obtain ⟨bk, bp, bq, br, bg, bo, bm, bn, bu, b1, b2, b3, b4⟩ := b
  unfold cmdO at HB HS
  unfold cmdV
  dsimp only at HB HS ⊢
  obtain ⟨l1, hl1⟩ : ∃ l1, ar.length = l1 := ⟨_, rfl⟩
  obtain ⟨l2, hl2⟩ : ∃ l2, br.length = l2 := ⟨_, rfl⟩
  rw [hl1, hl2] at HB HS
  rw [hl1, hl2]
  clear hl1 hl2
  by_cases hk : ak = bk
  · subst hk
    by_cases hp : ap = bp
    · subst hp
      by_cases hq : aq = bq
      · subst hq
        by_cases hr : ar = br
        · subst hr
          by_cases hg : ag = bg
          · subst hg
            by_cases ho : ao = bo
            · subst ho
              by_cases hm : am = bm
              · subst hm
                by_cases hn : an = bn
                · subst hn
                  by_cases hu : au = bu
                  · subst hu
                    by_cases h1 : a1 = b1
                    · subst h1
                      by_cases h2 : a2 = b2
                      · subst h2
                        by_cases h3 : a3 = b3
                        · subst h3
                          by_cases h4 : a4 = b4
                          · subst h4
                            have hd0 : ∀ d : Bool, (d = true ↔ ar = ar) → d = true := fun d hd => hd.2 rfl
                            go_enter Tryd.func15, Tryd.ntmps15
                            go_upto_region 0 with fail
                            iterate 3 (first | go_values | go_skip | go_guarded | go_step)
                            try simp only [List.append]
                            go_wp2_with (go_at_call 28; refine HS.out.mono ?_; rintro e w3 ⟨d, m, rfl, hd, rfl⟩; obtain rfl := hd0 d hd; clear hd hd0)
                            go_ret
                            exact ⟨_, rfl, by simp, below_drawing HB.out _⟩
                          · skip
                            have n4 : (a4 == b4) = false := by simpa using h4
                            have hd0 : ∀ d : Bool, (d = true ↔ ar = ar) → d = true := fun d hd => hd.2 rfl
                            have HF : Hid (¬ (⟨ak, ap, aq, ar, ag, ao, am, an, au, a1, a2, a3, a4⟩ : Cmd) = ⟨ak, ap, aq, ar, ag, ao, am, an, au, a1, a2, a3, b4⟩) := Lib.hid (fun e => h4 (congrArg Cmd.grace e))
                            clear h4
                            go_enter Tryd.func15, Tryd.ntmps15
                            go_upto_region 0 with fail
                            iterate 3 (first | go_values | go_skip | go_guarded | go_step)
                            try simp only [List.append]
                            go_wp2_with (go_at_call 28; refine HS.out.mono ?_; rintro e w3 ⟨d, m, rfl, hd, rfl⟩; obtain rfl := hd0 d hd; clear hd hd0)
                            go_ret
                            exact ⟨_, rfl, iff_of_false Bool.false_ne_true HF.out, below_drawing HB.out _⟩
                        · skip
                          have n3 : (a3 == b3) = false := by simpa using h3
                          have hd0 : ∀ d : Bool, (d = true ↔ ar = ar) → d = true := fun d hd => hd.2 rfl
                          have HF : Hid (¬ (⟨ak, ap, aq, ar, ag, ao, am, an, au, a1, a2, a3, a4⟩ : Cmd) = ⟨ak, ap, aq, ar, ag, ao, am, an, au, a1, a2, b3, b4⟩) := Lib.hid (fun e => h3 (congrArg Cmd.age e))
                          clear h3
                          go_enter Tryd.func15, Tryd.ntmps15
                          go_upto_region 0 with fail
                          iterate 3 (first | go_values | go_skip | go_guarded | go_step)
                          try simp only [List.append]
                          go_wp2_with (go_at_call 28; refine HS.out.mono ?_; rintro e w3 ⟨d, m, rfl, hd, rfl⟩; obtain rfl := hd0 d hd; clear hd hd0)
                          go_ret
                          exact ⟨_, rfl, iff_of_false Bool.false_ne_true HF.out, below_drawing HB.out _⟩
                      · skip
                        have n2 : (a2 == b2) = false := by simpa using h2
                        have hd0 : ∀ d : Bool, (d = true ↔ ar = ar) → d = true := fun d hd => hd.2 rfl
                        have HF : Hid (¬ (⟨ak, ap, aq, ar, ag, ao, am, an, au, a1, a2, a3, a4⟩ : Cmd) = ⟨ak, ap, aq, ar, ag, ao, am, an, au, a1, b2, b3, b4⟩) := Lib.hid (fun e => h2 (congrArg Cmd.keep e))
                        clear h2
                        go_enter Tryd.func15, Tryd.ntmps15
                        go_upto_region 0 with fail
                        iterate 3 (first | go_values | go_skip | go_guarded | go_step)
                        try simp only [List.append]
                        go_wp2_with (go_at_call 28; refine HS.out.mono ?_; rintro e w3 ⟨d, m, rfl, hd, rfl⟩; obtain rfl := hd0 d hd; clear hd hd0)
                        go_ret
                        exact ⟨_, rfl, iff_of_false Bool.false_ne_true HF.out, below_drawing HB.out _⟩
                    · skip
                      have n1 : (a1 == b1) = false := by simpa using h1
                      have hd0 : ∀ d : Bool, (d = true ↔ ar = ar) → d = true := fun d hd => hd.2 rfl
                      have HF : Hid (¬ (⟨ak, ap, aq, ar, ag, ao, am, an, au, a1, a2, a3, a4⟩ : Cmd) = ⟨ak, ap, aq, ar, ag, ao, am, an, au, b1, b2, b3, b4⟩) := Lib.hid (fun e => h1 (congrArg Cmd.seg e))
                      clear h1
                      go_enter Tryd.func15, Tryd.ntmps15
                      go_upto_region 0 with fail
                      iterate 3 (first | go_values | go_skip | go_guarded | go_step)
                      try simp only [List.append]
                      go_wp2_with (go_at_call 28; refine HS.out.mono ?_; rintro e w3 ⟨d, m, rfl, hd, rfl⟩; obtain rfl := hd0 d hd; clear hd hd0)
                      go_ret
                      exact ⟨_, rfl, iff_of_false Bool.false_ne_true HF.out, below_drawing HB.out _⟩
                  · skip
                    have nu : (au == bu) = false := by simpa using hu
                    have hd0 : ∀ d : Bool, (d = true ↔ ar = ar) → d = true := fun d hd => hd.2 rfl
                    have HF : Hid (¬ (⟨ak, ap, aq, ar, ag, ao, am, an, au, a1, a2, a3, a4⟩ : Cmd) = ⟨ak, ap, aq, ar, ag, ao, am, an, bu, b1, b2, b3, b4⟩) := Lib.hid (fun e => hu (congrArg Cmd.sum e))
                    clear hu
                    go_enter Tryd.func15, Tryd.ntmps15
                    go_upto_region 0 with fail
                    iterate 3 (first | go_values | go_skip | go_guarded | go_step)
                    try simp only [List.append]
                    go_wp2_with (go_at_call 28; refine HS.out.mono ?_; rintro e w3 ⟨d, m, rfl, hd, rfl⟩; obtain rfl := hd0 d hd; clear hd hd0)
                    go_ret
                    exact ⟨_, rfl, iff_of_false Bool.false_ne_true HF.out, below_drawing HB.out _⟩
                · skip
                  have nn : (an == bn) = false := by simpa using hn
                  have hd0 : ∀ d : Bool, (d = true ↔ ar = ar) → d = true := fun d hd => hd.2 rfl
                  have HF : Hid (¬ (⟨ak, ap, aq, ar, ag, ao, am, an, au, a1, a2, a3, a4⟩ : Cmd) = ⟨ak, ap, aq, ar, ag, ao, am, bn, bu, b1, b2, b3, b4⟩) := Lib.hid (fun e => hn (congrArg Cmd.now e))
                  clear hn
                  go_enter Tryd.func15, Tryd.ntmps15
                  go_upto_region 0 with fail
                  iterate 3 (first | go_values | go_skip | go_guarded | go_step)
                  try simp only [List.append]
                  go_wp2_with (go_at_call 28; refine HS.out.mono ?_; rintro e w3 ⟨d, m, rfl, hd, rfl⟩; obtain rfl := hd0 d hd; clear hd hd0)
                  go_ret
                  exact ⟨_, rfl, iff_of_false Bool.false_ne_true HF.out, below_drawing HB.out _⟩
              · skip
                have nm : (am == bm) = false := by simpa using hm
                have hd0 : ∀ d : Bool, (d = true ↔ ar = ar) → d = true := fun d hd => hd.2 rfl
                have HF : Hid (¬ (⟨ak, ap, aq, ar, ag, ao, am, an, au, a1, a2, a3, a4⟩ : Cmd) = ⟨ak, ap, aq, ar, ag, ao, bm, bn, bu, b1, b2, b3, b4⟩) := Lib.hid (fun e => hm (congrArg Cmd.max e))
                clear hm
                go_enter Tryd.func15, Tryd.ntmps15
                go_upto_region 0 with fail
                iterate 3 (first | go_values | go_skip | go_guarded | go_step)
                try simp only [List.append]
                go_wp2_with (go_at_call 28; refine HS.out.mono ?_; rintro e w3 ⟨d, m, rfl, hd, rfl⟩; obtain rfl := hd0 d hd; clear hd hd0)
                go_ret
                exact ⟨_, rfl, iff_of_false Bool.false_ne_true HF.out, below_drawing HB.out _⟩
            · skip
              have no : (ao == bo) = false := by simpa using ho
              have hd0 : ∀ d : Bool, (d = true ↔ ar = ar) → d = true := fun d hd => hd.2 rfl
              have HF : Hid (¬ (⟨ak, ap, aq, ar, ag, ao, am, an, au, a1, a2, a3, a4⟩ : Cmd) = ⟨ak, ap, aq, ar, ag, bo, bm, bn, bu, b1, b2, b3, b4⟩) := Lib.hid (fun e => ho (congrArg Cmd.off e))
              clear ho
              go_enter Tryd.func15, Tryd.ntmps15
              go_upto_region 0 with fail
              iterate 3 (first | go_values | go_skip | go_guarded | go_step)
              try simp only [List.append]
              go_wp2_with (go_at_call 28; refine HS.out.mono ?_; rintro e w3 ⟨d, m, rfl, hd, rfl⟩; obtain rfl := hd0 d hd; clear hd hd0)
              go_ret
              exact ⟨_, rfl, iff_of_false Bool.false_ne_true HF.out, below_drawing HB.out _⟩
          · skip
            have ng : (ag.toList == bg.toList) = false := text_ne hg
            have hd0 : ∀ d : Bool, (d = true ↔ ar = ar) → d = true := fun d hd => hd.2 rfl
            have HF : Hid (¬ (⟨ak, ap, aq, ar, ag, ao, am, an, au, a1, a2, a3, a4⟩ : Cmd) = ⟨ak, ap, aq, ar, bg, bo, bm, bn, bu, b1, b2, b3, b4⟩) := Lib.hid (fun e => hg (congrArg Cmd.group e))
            clear hg
            go_enter Tryd.func15, Tryd.ntmps15
            go_upto_region 0 with fail
            iterate 3 (first | go_values | go_skip | go_guarded | go_step)
            try simp only [List.append]
            go_wp2_with (go_at_call 28; refine HS.out.mono ?_; rintro e w3 ⟨d, m, rfl, hd, rfl⟩; obtain rfl := hd0 d hd; clear hd hd0)
            go_ret
            exact ⟨_, rfl, iff_of_false Bool.false_ne_true HF.out, below_drawing HB.out _⟩
        · skip
          have hd0 : ∀ d : Bool, (d = true ↔ ar = br) → d = false := by intro d hd; cases d; rfl; exact absurd (hd.1 rfl) hr
          have HF : Hid (¬ (⟨ak, ap, aq, ar, ag, ao, am, an, au, a1, a2, a3, a4⟩ : Cmd) = ⟨ak, ap, aq, br, bg, bo, bm, bn, bu, b1, b2, b3, b4⟩) := Lib.hid (fun e => hr (congrArg Cmd.recs e))
          clear hr
          go_enter Tryd.func15, Tryd.ntmps15
          go_upto_region 0 with fail
          iterate 3 (first | go_values | go_skip | go_guarded | go_step)
          try simp only [List.append]
          go_wp2_with (go_at_call 28; refine HS.out.mono ?_; rintro e w3 ⟨d, m, rfl, hd, rfl⟩; obtain rfl := hd0 d hd; clear hd hd0)
          go_ret
          exact ⟨_, rfl, iff_of_false Bool.false_ne_true HF.out, below_drawing HB.out _⟩
      · skip
        have nq : (aq == bq) = false := by simpa using hq
        have HF : Hid (¬ (⟨ak, ap, aq, ar, ag, ao, am, an, au, a1, a2, a3, a4⟩ : Cmd) = ⟨ak, ap, bq, br, bg, bo, bm, bn, bu, b1, b2, b3, b4⟩) := Lib.hid (fun e => hq (congrArg Cmd.seq e))
        clear hq
        go_enter Tryd.func15, Tryd.ntmps15
        go_upto_region 0 with fail
        iterate 3 (first | go_values | go_skip | go_guarded | go_step)
        try simp only [List.append]
        go_wp2_with fail
        go_ret
        exact ⟨_, rfl, iff_of_false Bool.false_ne_true HF.out, HB.out⟩
    · skip
      have np : (ap == bp) = false := by simpa using hp
      have HF : Hid (¬ (⟨ak, ap, aq, ar, ag, ao, am, an, au, a1, a2, a3, a4⟩ : Cmd) = ⟨ak, bp, bq, br, bg, bo, bm, bn, bu, b1, b2, b3, b4⟩) := Lib.hid (fun e => hp (congrArg Cmd.pid e))
      clear hp
      go_enter Tryd.func15, Tryd.ntmps15
      go_upto_region 0 with fail
      iterate 3 (first | go_values | go_skip | go_guarded | go_step)
      try simp only [List.append]
      go_wp2_with fail
      go_ret
      exact ⟨_, rfl, iff_of_false Bool.false_ne_true HF.out, HB.out⟩
  · skip
    have nk : (ak == bk) = false := by simpa using hk
    have HF : Hid (¬ (⟨ak, ap, aq, ar, ag, ao, am, an, au, a1, a2, a3, a4⟩ : Cmd) = ⟨bk, bp, bq, br, bg, bo, bm, bn, bu, b1, b2, b3, b4⟩) := Lib.hid (fun e => hk (congrArg Cmd.kind e))
    clear hk
    go_enter Tryd.func15, Tryd.ntmps15
    go_upto_region 0 with fail
    iterate 3 (first | go_values | go_skip | go_guarded | go_step)
    try simp only [List.append]
    go_wp2_with fail
    go_ret
    exact ⟨_, rfl, iff_of_false Bool.false_ne_true HF.out, HB.out⟩
end Go.Proofs.YtiglignfjegilaaDoor
