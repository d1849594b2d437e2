/- A contract of the program's own Keep. -/
import Derived.Test.YtjblhfhfappmoaaVLasts
import Derived.Deep.QuietTactic
import Derived.BigQuiet
namespace Go.Proofs.Ytjblhfhfappmoaa
open Go.RowKit

set_option maxHeartbeats 6400000 in
theorem vkeep13_any (w : World) (rs : List Rec) (A : Option Addr) (cap : Nat) (h : RecsLie w A rs cap) (p n g : Int) (d : Bool)
    (_hp : -9223372036854775808 ≤ p ∧ p ≤ 9223372036854775807) (hn : -9223372036854775808 ≤ n ∧ n ≤ 9223372036854775807) (hg : -9223372036854775808 ≤ g ∧ g ≤ 9223372036854775807) (hl : rs.length ≤ 1000000000) :
    Calls Try.prog 10 #[.slice A rs.length cap, .int .i64 p, .int .i64 n, .int .i64 g, .bool d] w (NewRecs w (keepL p n g d rs)) := by
  have hcl := h.2.1
  have hcm := h.2.2.1
  unfold maxLen at hcm
  have H := Lib.hid h
  have HL := Lib.hid hl
  have HWF := Lib.hid h.2.2.2
  have HNG := Lib.hid (And.intro hn hg)
  have hb1 : Below w.heap.size w (w.alloc (.cells #[.int .i64 p] 3)) := (Below.refl _ _).alloc (Nat.le_refl _) _
  have HC := Lib.hid (lasts_keep (w.alloc (.cells #[.int .i64 p] 3)) rs A cap (h.below hb1 (Nat.le_refl _)) hl w.heap.size p (by unfold World.cell?; rw [heap_alloc_new]; rfl) (by simp))
  have HB1 := Lib.hid hb1
  clear h hl hn hg hb1
  go_enter Try.func10, Try.ntmps10
  go_wp2_with fail
  refine HC.out.mono ?_
  rintro e w2 ⟨rfl, hpl, hb2⟩
  have cp2 : w2.cell? ⟨w.heap.size, 0, none⟩ = some (.int .i64 p) := (hb2.cell (p := ⟨w.heap.size, 0, none⟩) (by simp)).trans (by unfold World.cell?; rw [heap_alloc_new]; rfl)
  have hs2 : w.heap.size + 1 < w2.heap.size := by have := hpl.lt; simpa using this
  have HB2 := Lib.hid (HB1.out.trans (hb2.mono (by simp)))
  have hpl2 : PlacesIn w2 (w.heap.size + 1) rs.length (fun k => lastI (fun r => decide (r.off < p)) rs k rs.length) := by simpa using hpl
  have HCP := Lib.hid cp2
  obtain ⟨f, hf⟩ : ∃ f, (fun k => lastI (fun r => decide (r.off < p)) rs k rs.length) = f := ⟨_, rfl⟩
  rw [hf] at hpl2
  have HP2 := Lib.hid hpl2
  have HF := Lib.hid hf
  clear hpl hb2 HC hf cp2 hpl2
  go_wp2_with fail
  go_loopw [12, 21] (fun v iv wr => ∃ (i : Nat) (ps : List Rec), iv = .int .i64 i ∧ i ≤ rs.length ∧ ps.length ≤ i ∧ (∀ r ∈ ps, r.wf) ∧ OwnR wr w2.heap.size v ps ∧ Below w2.heap.size w2 wr ∧ ps ++ keepL p n g d (rs.drop i) = keepL p n g d rs) (fun _ iv _ => rs.length - (intOf iv).toNat)
  case atStart => exact ⟨0, [], rfl, Nat.zero_le _, Nat.zero_le _, (fun _ hr => by cases hr), OwnR.nil, Below.refl _ _, rfl⟩
  case round =>
    generalize wr = wo at *
    obtain ⟨i, ps, rfl, hi, hpi, hpw, hown, hbel, hE⟩ := hrel
    have hll := HL.out
    obtain ⟨B, c, rfl, hlie, hB⟩ := hown.parts hpw
    have HB := Lib.hid hbel
    have HPW := Lib.hid hpw
    have hcc := hlie.2.1
    have hcc2 := hlie.2.2.1
    unfold maxLen at hcc2
    clear hlie hB hpw
    obtain ⟨k0, hk0⟩ : ∃ k, ps.length = k := ⟨_, rfl⟩
    rw [hk0] at hcc hpi hown
    have HO := Lib.hid hown
    rw [hk0]
    have HK := Lib.hid hk0
    have hbs := hbel.size
    clear hk0 hown
    by_cases hlt : i < rs.length
    · rw [keep_drop hlt] at hE
      obtain ⟨b, off, rfl, hbl, hat⟩ := H.out.more hlt
      obtain ⟨a0, a1, a2, a3, a4⟩ := hat.keep (w' := wo) fun j => (HB2.out.cell (p := ⟨b, j, none⟩) hbl ▸ hbel.cell (p := ⟨b, j, none⟩) (by show b < _; omega))
      have HRW := Lib.hid (HWF.out _ (List.getElem_mem hlt))
      have HGL := Lib.hid (fun ho => gone_last (point := p) (now := n) (grace := g) (dead := d) hlt ho)
      have HF2 : Hid (lastI (fun r => decide (r.off < p)) rs rs[i].key rs.length = f rs[i].key) := Lib.hid (congrFun HF.out _)
      rw [HF2.out] at HGL
      obtain ⟨r, hr⟩ : ∃ r, rs[i] = r := ⟨_, rfl⟩
      rw [hr] at a0 a1 a2 a3 a4 hE HRW HGL
      obtain ⟨ro, rt, rk, rv, rd⟩ := r
      dsimp only at a0 a1 a2 a3 a4 HGL
      have HLT := Lib.hid hlt
      have hx0 : Below wo.heap.size wo (wo.alloc (.cells #[.int .i64 ro, .int .i64 rt, .string rk, .string rv, .bool rd] 32)) := (Below.refl _ _).alloc (Nat.le_refl _) _
      have hP3 := (HP2.out.below hbel (by omega)).below hx0 (by omega)
      have lk := hP3.look HRW.out.2.2.2.2.1
      have cp : (wo.alloc (.cells #[.int .i64 ro, .int .i64 rt, .string rk, .string rv, .bool rd] 32)).cell? ⟨w.heap.size, 0, none⟩ = some (.int .i64 p) := (hx0.cell (p := ⟨w.heap.size, 0, none⟩) (by show w.heap.size < _; omega)).trans ((hbel.cell (p := ⟨w.heap.size, 0, none⟩) (by show w.heap.size < _; omega)).trans HCP.out)
      obtain ⟨L, hL⟩ : ∃ L, f rk = L := ⟨_, rfl⟩
      rw [hL] at lk HGL
      have HX0 := Lib.hid hx0
      have HE := Lib.hid hE
      clear hr hat hE hx0 hP3 hL HF2
      have HO3 : Hid (∀ nq, OwnR ((wo.alloc (.cells #[.int .i64 ro, .int .i64 rt, .string rk, .string rv, .bool rd] 32)).drewN nq) w2.heap.size (.slice B k0 c) ps) := Lib.hid fun nq => (HO.out.alloc _).below (drawn_on (Below.refl _ _) nq)
      have HB3 : Hid (∀ nq, Below w2.heap.size w2 ((wo.alloc (.cells #[.int .i64 ro, .int .i64 rt, .string rk, .string rv, .bool rd] 32)).drewN nq)) := Lib.hid fun nq => (HB.out.trans (HX0.out.mono hbs)).trans (drawn_on (Below.refl _ _) nq)
      have HOV := Lib.hid (fun W => over_any W rt n g ⟨HRW.out.2.2.1, HRW.out.2.2.2.1⟩ HNG.out.1 HNG.out.2)
      have hE := HE.out
      clear HE HX0 hbel
      by_cases ho : ro < p
      · have q0 : decide (p ≤ ro) = false := decide_eq_false (by omega)
        by_cases hLi : L = i
        · rw [hLi] at lk HGL
          have q1 : ((i : Int) == (i : Int)) = true := by simp
          cases d with
          | false =>
            have HG : goneP p n g false ⟨ro, rt, rk, rv, rd⟩ (rs.drop (i + 1)) = false := by rw [HGL.out ho]; simp
            rw [if_neg (by rw [HG]; simp)] at hE
            have HF2 : Hid ((ps ++ [⟨ro, rt, rk, rv, rd⟩]) ++ keepL p n g false (rs.drop (i + 1)) = keepL p n g false rs) := Lib.hid (by rw [List.append_assoc]; exact hE)
            clear hE HG
            go_wp2_with (first | fail | (at_builtin; refine wpList_append_rec_at rfl (.tmp 54) (.tmp 56) rfl w2.heap.size (.slice B k0 c) ps rfl _ ⟨ro, rt, rk, rv, rd⟩ rfl (by first | exact HO3.out 0 | exact HO3.out _) _ rfl (by simp) (by rw [HK.out]; omega) (by simp; omega) ?_; intro v4 w4 hown4 hb4 _ _; have HO4 := Lib.hid hown4; have HB4 := Lib.hid hb4; clear hown4 hb4))
            go_roundw
            case rel => exact ⟨i + 1, ps ++ [⟨ro, rt, rk, rv, rd⟩], by go_num, HLT.out, by rw [List.length_append, HK.out, List.length_singleton]; omega, fun x hx => by rcases List.mem_append.mp hx with hx | hx; exact HPW.out x hx; rcases List.mem_singleton.mp hx with rfl; exact HRW.out, HO4.out, by first | exact (HB3.out 0).trans HB4.out | exact (HB3.out _).trans HB4.out, HF2.out⟩
            case measure => simp [intOf]; omega
          | true =>
            cases rd with
            | false =>
              have HG : goneP p n g true ⟨ro, rt, rk, rv, false⟩ (rs.drop (i + 1)) = false := by rw [HGL.out ho]; simp
              rw [if_neg (by rw [HG]; simp)] at hE
              have HF2 : Hid ((ps ++ [⟨ro, rt, rk, rv, false⟩]) ++ keepL p n g true (rs.drop (i + 1)) = keepL p n g true rs) := Lib.hid (by rw [List.append_assoc]; exact hE)
              clear hE HG
              go_wp2_with (first | fail | (at_builtin; refine wpList_append_rec_at rfl (.tmp 54) (.tmp 56) rfl w2.heap.size (.slice B k0 c) ps rfl _ ⟨ro, rt, rk, rv, false⟩ rfl (by first | exact HO3.out 0 | exact HO3.out _) _ rfl (by simp) (by rw [HK.out]; omega) (by simp; omega) ?_; intro v4 w4 hown4 hb4 _ _; have HO4 := Lib.hid hown4; have HB4 := Lib.hid hb4; clear hown4 hb4))
              go_roundw
              case rel => exact ⟨i + 1, ps ++ [⟨ro, rt, rk, rv, false⟩], by go_num, HLT.out, by rw [List.length_append, HK.out, List.length_singleton]; omega, fun x hx => by rcases List.mem_append.mp hx with hx | hx; exact HPW.out x hx; rcases List.mem_singleton.mp hx with rfl; exact HRW.out, HO4.out, by first | exact (HB3.out 0).trans HB4.out | exact (HB3.out _).trans HB4.out, HF2.out⟩
              case measure => simp [intOf]; omega
            | true =>
              by_cases hov : g < n - rt
              · have q2 : decide (g < n - rt) = true := decide_eq_true hov
                rw [q2] at HOV
                have HG : goneP p n g true ⟨ro, rt, rk, rv, true⟩ (rs.drop (i + 1)) = true := by rw [HGL.out ho, q2]; simp
                rw [if_pos (by rw [HG])] at hE
                have HF2 := Lib.hid hE
                clear hE HG
                go_wp2_with (first | (go_at_call 17; refine (HOV.out _).mono ?_; rintro e w9 ⟨rfl, rfl⟩))
                go_roundw
                case rel => exact ⟨i + 1, ps, by go_num, HLT.out, by rw [HK.out]; omega, HPW.out, by first | exact HO3.out 0 | exact HO3.out _, by first | exact HB3.out 0 | exact HB3.out _, HF2.out⟩
                case measure => simp [intOf]; omega
              · have q2 : decide (g < n - rt) = false := decide_eq_false hov
                rw [q2] at HOV
                have HG : goneP p n g true ⟨ro, rt, rk, rv, true⟩ (rs.drop (i + 1)) = false := by rw [HGL.out ho, q2]; simp
                rw [if_neg (by rw [HG]; simp)] at hE
                have HF2 : Hid ((ps ++ [⟨ro, rt, rk, rv, true⟩]) ++ keepL p n g true (rs.drop (i + 1)) = keepL p n g true rs) := Lib.hid (by rw [List.append_assoc]; exact hE)
                clear hE HG
                go_wp2_with (first | (first | (go_at_call 17; refine (HOV.out _).mono ?_; rintro e w9 ⟨rfl, rfl⟩)) | (at_builtin; refine wpList_append_rec_at rfl (.tmp 54) (.tmp 56) rfl w2.heap.size (.slice B k0 c) ps rfl _ ⟨ro, rt, rk, rv, true⟩ rfl (by first | exact HO3.out 0 | exact HO3.out _) _ rfl (by simp) (by rw [HK.out]; omega) (by simp; omega) ?_; intro v4 w4 hown4 hb4 _ _; have HO4 := Lib.hid hown4; have HB4 := Lib.hid hb4; clear hown4 hb4))
                go_roundw
                case rel => exact ⟨i + 1, ps ++ [⟨ro, rt, rk, rv, true⟩], by go_num, HLT.out, by rw [List.length_append, HK.out, List.length_singleton]; omega, fun x hx => by rcases List.mem_append.mp hx with hx | hx; exact HPW.out x hx; rcases List.mem_singleton.mp hx with rfl; exact HRW.out, HO4.out, by first | exact (HB3.out 0).trans HB4.out | exact (HB3.out _).trans HB4.out, HF2.out⟩
                case measure => simp [intOf]; omega
        · have q1 : ((L : Int) == (i : Int)) = false := by simp only [beq_eq_false_iff_ne, ne_eq]; omega
          cases d with
          | false =>
            have HG : goneP p n g false ⟨ro, rt, rk, rv, rd⟩ (rs.drop (i + 1)) = true := by rw [HGL.out ho]; simp [hLi]
            rw [if_pos (by rw [HG])] at hE
            have HF2 := Lib.hid hE
            clear hE HG
            go_wp2_with fail
            go_roundw
            case rel => exact ⟨i + 1, ps, by go_num, HLT.out, by rw [HK.out]; omega, HPW.out, by first | exact HO3.out 0 | exact HO3.out _, by first | exact HB3.out 0 | exact HB3.out _, HF2.out⟩
            case measure => simp [intOf]; omega
          | true =>
            cases rd with
            | false =>
              have HG : goneP p n g true ⟨ro, rt, rk, rv, false⟩ (rs.drop (i + 1)) = true := by rw [HGL.out ho]; simp [hLi]
              rw [if_pos (by rw [HG])] at hE
              have HF2 := Lib.hid hE
              clear hE HG
              go_wp2_with fail
              go_roundw
              case rel => exact ⟨i + 1, ps, by go_num, HLT.out, by rw [HK.out]; omega, HPW.out, by first | exact HO3.out 0 | exact HO3.out _, by first | exact HB3.out 0 | exact HB3.out _, HF2.out⟩
              case measure => simp [intOf]; omega
            | true =>
              have HG : goneP p n g true ⟨ro, rt, rk, rv, true⟩ (rs.drop (i + 1)) = true := by rw [HGL.out ho]; simp [hLi]
              rw [if_pos (by rw [HG])] at hE
              have HF2 := Lib.hid hE
              clear hE HG
              go_wp2_with (first | (go_at_call 17; refine (HOV.out _).mono ?_; rintro e w9 ⟨rfl, rfl⟩))
              go_roundw
              case rel => exact ⟨i + 1, ps, by go_num, HLT.out, by rw [HK.out]; omega, HPW.out, by first | exact HO3.out 0 | exact HO3.out _, by first | exact HB3.out 0 | exact HB3.out _, HF2.out⟩
              case measure => simp [intOf]; omega
      · have q0 : decide (p ≤ ro) = true := decide_eq_true (by omega)
        cases d with
        | false =>
          have HG : goneP p n g false ⟨ro, rt, rk, rv, rd⟩ (rs.drop (i + 1)) = false := by unfold goneP; rw [decide_eq_false ho]; rfl
          rw [if_neg (by rw [HG]; simp)] at hE
          have HF2 : Hid ((ps ++ [⟨ro, rt, rk, rv, rd⟩]) ++ keepL p n g false (rs.drop (i + 1)) = keepL p n g false rs) := Lib.hid (by rw [List.append_assoc]; exact hE)
          clear hE HG
          go_wp2_with (first | fail | (at_builtin; refine wpList_append_rec_at rfl (.tmp 54) (.tmp 56) rfl w2.heap.size (.slice B k0 c) ps rfl _ ⟨ro, rt, rk, rv, rd⟩ rfl (by first | exact HO3.out 0 | exact HO3.out _) _ rfl (by simp) (by rw [HK.out]; omega) (by simp; omega) ?_; intro v4 w4 hown4 hb4 _ _; have HO4 := Lib.hid hown4; have HB4 := Lib.hid hb4; clear hown4 hb4))
          go_roundw
          case rel => exact ⟨i + 1, ps ++ [⟨ro, rt, rk, rv, rd⟩], by go_num, HLT.out, by rw [List.length_append, HK.out, List.length_singleton]; omega, fun x hx => by rcases List.mem_append.mp hx with hx | hx; exact HPW.out x hx; rcases List.mem_singleton.mp hx with rfl; exact HRW.out, HO4.out, by first | exact (HB3.out 0).trans HB4.out | exact (HB3.out _).trans HB4.out, HF2.out⟩
          case measure => simp [intOf]; omega
        | true =>
          cases rd with
          | false =>
            have HG : goneP p n g true ⟨ro, rt, rk, rv, false⟩ (rs.drop (i + 1)) = false := by unfold goneP; rw [decide_eq_false ho]; rfl
            rw [if_neg (by rw [HG]; simp)] at hE
            have HF2 : Hid ((ps ++ [⟨ro, rt, rk, rv, false⟩]) ++ keepL p n g true (rs.drop (i + 1)) = keepL p n g true rs) := Lib.hid (by rw [List.append_assoc]; exact hE)
            clear hE HG
            go_wp2_with (first | fail | (at_builtin; refine wpList_append_rec_at rfl (.tmp 54) (.tmp 56) rfl w2.heap.size (.slice B k0 c) ps rfl _ ⟨ro, rt, rk, rv, false⟩ rfl (by first | exact HO3.out 0 | exact HO3.out _) _ rfl (by simp) (by rw [HK.out]; omega) (by simp; omega) ?_; intro v4 w4 hown4 hb4 _ _; have HO4 := Lib.hid hown4; have HB4 := Lib.hid hb4; clear hown4 hb4))
            go_roundw
            case rel => exact ⟨i + 1, ps ++ [⟨ro, rt, rk, rv, false⟩], by go_num, HLT.out, by rw [List.length_append, HK.out, List.length_singleton]; omega, fun x hx => by rcases List.mem_append.mp hx with hx | hx; exact HPW.out x hx; rcases List.mem_singleton.mp hx with rfl; exact HRW.out, HO4.out, by first | exact (HB3.out 0).trans HB4.out | exact (HB3.out _).trans HB4.out, HF2.out⟩
            case measure => simp [intOf]; omega
          | true =>
            have HG : goneP p n g true ⟨ro, rt, rk, rv, true⟩ (rs.drop (i + 1)) = false := by unfold goneP; rw [decide_eq_false ho]; rfl
            rw [if_neg (by rw [HG]; simp)] at hE
            have HF2 : Hid ((ps ++ [⟨ro, rt, rk, rv, true⟩]) ++ keepL p n g true (rs.drop (i + 1)) = keepL p n g true rs) := Lib.hid (by rw [List.append_assoc]; exact hE)
            clear hE HG
            go_wp2_with (first | (first | (go_at_call 17; refine (HOV.out _).mono ?_; rintro e w9 ⟨rfl, rfl⟩)) | (at_builtin; refine wpList_append_rec_at rfl (.tmp 54) (.tmp 56) rfl w2.heap.size (.slice B k0 c) ps rfl _ ⟨ro, rt, rk, rv, true⟩ rfl (by first | exact HO3.out 0 | exact HO3.out _) _ rfl (by simp) (by rw [HK.out]; omega) (by simp; omega) ?_; intro v4 w4 hown4 hb4 _ _; have HO4 := Lib.hid hown4; have HB4 := Lib.hid hb4; clear hown4 hb4))
            go_roundw
            case rel => exact ⟨i + 1, ps ++ [⟨ro, rt, rk, rv, true⟩], by go_num, HLT.out, by rw [List.length_append, HK.out, List.length_singleton]; omega, fun x hx => by rcases List.mem_append.mp hx with hx | hx; exact HPW.out x hx; rcases List.mem_singleton.mp hx with rfl; exact HRW.out, HO4.out, by first | exact (HB3.out 0).trans HB4.out | exact (HB3.out _).trans HB4.out, HF2.out⟩
            case measure => simp [intOf]; omega
    · obtain rfl : i = rs.length := by omega
      have HE : Hid (ps = keepL p n g d rs) := Lib.hid (by rw [← hE, List.drop_length]; unfold keepL; rw [List.append_nil])
      clear hE
      go_wp2_with fail
      go_ret
      exact ⟨_, rfl, by rw [← HE.out]; exact ⟨HO.out.1, HO.out.2.imp id fun ⟨g, cap, cur, e, h1, h2⟩ => ⟨g, cap, cur, e, Nat.le_trans HB2.out.size h1, h2⟩⟩, HB2.out.trans (HB.out.mono HB2.out.size)⟩
end Go.Proofs.Ytjblhfhfappmoaa
