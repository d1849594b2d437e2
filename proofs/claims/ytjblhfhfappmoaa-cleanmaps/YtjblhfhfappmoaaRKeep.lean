/- A contract of the document's own Keep. -/
import Derived.Test.YtjblhfhfappmoaaROlder
import Derived.Test.YtjblhfhfappmoaaCleanNum
import Derived.Deep.QuietTactic
import Derived.BigQuiet
import Derived.Deep.DeepCutAuto
namespace Go.Proofs.Ytjblhfhfappmoaa
open Go.RowKit

theorem below_more {B : Nat} {w w' : World} (h : Below B w w') (m : Nat) : Below B w (w'.drewN m) := ⟨h.os, h.tape, h.output, h.size, h.block⟩
theorem rec_load {w : World} {b : Nat} {t : TypeId} {r : Rec} (h : w.heap[b]? = some (.cells #[.int .i64 r.off, .int .i64 r.time, .string r.key, .string r.val, .bool r.dead] t)) : RecAt w b 0 r :=
  ⟨by unfold World.cell?; rw [h]; rfl, by unfold World.cell?; rw [h]; rfl, by unfold World.cell?; rw [h]; rfl, by unfold World.cell?; rw [h]; rfl, by unfold World.cell?; rw [h]; rfl⟩
theorem over_drop {point : Int} {k : ByteArray} {l : List Rec} {i : Nat} (h : i < l.length) : overP point k (l.drop i) = ((decide (l[i].key = k) && decide (l[i].off < point)) || overP point k (l.drop (i + 1))) := by
  rw [List.drop_eq_getElem_cons h]
  rfl
set_option maxHeartbeats 6400000 in
theorem refkeep_any (w : World) (rs : List Rec) (A : Option Addr) (cap : Nat) (h : RecsLie w A rs cap) (p n g : Int) (d : Bool)
    (hn : -9223372036854775808 ≤ n ∧ n ≤ 9223372036854775807) (hg : -9223372036854775808 ≤ g ∧ g ≤ 9223372036854775807) (hl : rs.length ≤ 1000000000) :
    Calls Try.prog 11 #[.slice A rs.length cap, .int .i64 p, .int .i64 n, .int .i64 g, .bool d] w (NewRecs w (keepL p n g d rs)) := by
  have hcl := h.2.1
  have hcm := h.2.2.1
  unfold maxLen at hcm
  have H := Lib.hid h
  have HL := Lib.hid hl
  have HWF := Lib.hid h.2.2.2
  have HNG := Lib.hid (And.intro hn hg)
  clear h hl hn hg
  go_enter Try.func11, Try.ntmps11
  go_wp2_with fail
  go_loopw [11, 12] (fun v iv wr => ∃ (i : Nat) (ps : List Rec), iv = .int .i64 i ∧ i ≤ rs.length ∧ ps.length ≤ i ∧ (∀ r ∈ ps, r.wf) ∧ OwnR wr w.heap.size v ps ∧ Below w.heap.size w wr ∧ ps ++ keepL p n g d (rs.drop i) = keepL p n g d rs) (fun _ iv _ => rs.length - (intOf iv).toNat)
  case atStart => exact ⟨0, [], rfl, Nat.zero_le _, Nat.zero_le _, (fun _ hr => by cases hr), OwnR.nil, Below.refl _ _, rfl⟩
  case round =>
    generalize wr = wo at *
    obtain ⟨i, ps, rfl, hi, hpi, hpw, hown, hbel, hE⟩ := hrel
    have hll := HL.out
    obtain ⟨B, c, rfl, hlie, hB⟩ := hown.parts hpw
    have HB := Lib.hid hbel
    have HPW := Lib.hid hpw
    have hcc := hlie.2.1
    have hcc2 := hlie.2.2.1
    unfold maxLen at hcc2
    clear hlie hB hpw
    obtain ⟨k0, hk0⟩ : ∃ k, ps.length = k := ⟨_, rfl⟩
    rw [hk0] at hcc hpi hown
    have HO := Lib.hid hown
    rw [hk0]
    have HK := Lib.hid hk0
    clear hk0 hown
    by_cases hlt : i < rs.length
    · rw [keep_drop hlt] at hE
      obtain ⟨b, off, rfl, hbl, hat⟩ := H.out.more hlt
      obtain ⟨a0, a1, a2, a3, a4⟩ := hat.keep (w' := wo) fun j => hbel.cell hbl
      have HRW := Lib.hid (HWF.out _ (List.getElem_mem hlt))
      obtain ⟨r, hr⟩ : ∃ r, rs[i] = r := ⟨_, rfl⟩
      rw [hr] at a0 a1 a2 a3 a4 hE HRW
      obtain ⟨ro, rt, rk, rv, rd⟩ := r
      dsimp only at a0 a1 a2 a3 a4
      have HLT := Lib.hid hlt
      have hbs := hbel.size
      obtain ⟨G, hG⟩ : ∃ G, goneP p n g d ⟨ro, rt, rk, rv, rd⟩ (rs.drop (i + 1)) = G := ⟨_, rfl⟩
      rw [hG] at hE
      have HE := Lib.hid hE
      have HG := Lib.hid hG
      unfold goneP at hG
      dsimp only at hG
      have HX := Lib.hid hG
      have HBC := Lib.hid (And.intro hbl hbs)
      have HOLD := Lib.hid (fun W => older_any W rt n g ⟨HRW.out.2.2.1, HRW.out.2.2.2.1⟩ HNG.out.1 HNG.out.2)
      clear hr hat hbel hG hE hbl
      go_upto_if 29 with fail
      go_cut [14] (fun s wx => s = .bool G ∧ Below wo.heap.size wo wx ∧ wx.heap[wo.heap.size]? = some (.cells #[.int .i64 ro, .int .i64 rt, .string rk, .string rv, .bool rd] 32))
      case first =>
        have hb0 : Below wo.heap.size wo (wo.alloc (.cells #[.int .i64 ro, .int .i64 rt, .string rk, .string rv, .bool rd] 32)) := (Below.refl _ _).alloc (Nat.le_refl _) _
        have hw0 : (wo.alloc (.cells #[.int .i64 ro, .int .i64 rt, .string rk, .string rv, .bool rd] 32)).heap[wo.heap.size]? = some (.cells #[.int .i64 ro, .int .i64 rt, .string rk, .string rv, .bool rd] 32) := heap_alloc_new wo _
        have HW0 := Lib.hid (And.intro hb0 hw0)
        clear hb0 hw0
        by_cases ho : ro < p
        · have q0 : decide (ro < p) = true := decide_eq_true ho
          have HY := Lib.hid (show (overP p rk (rs.drop (i + 1)) || (rd && d && decide (g < n - rt))) = G by have := HX.out; rw [q0, Bool.true_and] at this; exact this)
          clear a0 a1 a2 a3 a4 HX
          rw [q0]
          go_wp2_with fail
          go_loopw [14, 15] (fun gv kv wx => ∃ (bb : Bool) (k : Nat), gv = .bool bb ∧ kv = .int .i64 k ∧ i + 1 ≤ k ∧ k ≤ rs.length ∧ overP p rk (rs.drop (i + 1)) = (bb || overP p rk (rs.drop k)) ∧ Below wo.heap.size wo wx ∧ wx.heap[wo.heap.size]? = some (.cells #[.int .i64 ro, .int .i64 rt, .string rk, .string rv, .bool rd] 32)) (fun _ kv _ => rs.length - (intOf kv).toNat)
          case atStart => exact ⟨false, i + 1, rfl, by go_num, Nat.le_refl _, HLT.out, rfl, HW0.out.1, HW0.out.2⟩
          case round =>
            obtain ⟨bb, k, rfl, rfl, hk1, hk2, hov, hbx, hox⟩ := hrel
            obtain ⟨c0, c1, c2, c3, c4⟩ := rec_load (r := ⟨ro, rt, rk, rv, rd⟩) hox
            dsimp only at c0 c1 c2 c3 c4
            have HOV := Lib.hid hov
            have HBX := Lib.hid (And.intro hbx hox)
            clear hov hox
            have hkn : k ≤ 1000000000 := by omega
            by_cases hk : k < rs.length
            · have e1 : decide ((k : Int) < (rs.length : Int)) = true := decide_eq_true (by omega)
              cases bb with
              | true =>
                have HD : Hid (G = true) := Lib.hid (by rw [← HY.out, HOV.out]; rfl)
                clear hbx
                go_wp2_with (first | (go_at_call 18; refine (HOLD.out _).mono ?_; rintro e w9 ⟨rfl, rfl⟩))
                go_meet
                exact ⟨by rw [HD.out], HBX.out.1, HBX.out.2⟩
              | false =>
                obtain ⟨b2, o2, he2, hbl2, hat2⟩ := H.out.more hk
                obtain ⟨rfl, rfl⟩ : b = b2 ∧ off = o2 := by injection he2 with he2; injection he2 with x1 x2; exact ⟨x1, x2⟩
                obtain ⟨d0, d1, d2, d3, d4⟩ := hat2.keep (w' := wr) fun j => (HB.out.trans (HBX.out.1.mono HBC.out.2)).cell HBC.out.1
                have HS := Lib.hid (over_drop (point := p) (k := rk) hk)
                obtain ⟨u, hu⟩ : ∃ u, rs[k] = u := ⟨_, rfl⟩
                rw [hu] at d0 d1 d2 d3 d4 HS
                obtain ⟨uo, ut, uk, uv, ud⟩ := u
                dsimp only at d0 d1 d2 d3 d4 HS
                clear hu hat2 hbl2 he2 hbx
                have HR : ∀ nq, Below wo.heap.size wo (wr.drewN nq) ∧ (wr.drewN nq).heap[wo.heap.size]? = some (.cells #[.int .i64 ro, .int .i64 rt, .string rk, .string rv, .bool rd] 32) := fun nq => ⟨below_more HBX.out.1 nq, HBX.out.2⟩
                have HR := Lib.hid HR
                by_cases hkk : uk = rk
                · subst hkk
                  have s1 : (uk.toList == uk.toList) = true := by simp
                  by_cases huo : uo < p
                  · have s2 : decide (uo < p) = true := decide_eq_true huo
                    have HF : Hid (overP p uk (rs.drop (i + 1)) = (true || overP p uk (rs.drop (k + 1)))) := Lib.hid (by rw [HOV.out, HS.out, s2]; simp)
                    clear HOV HS
                    go_wp2_with fail
                    go_quiet (fail)
                    go_wp2
                    go_roundw
                    case rel => exact ⟨_, k + 1, rfl, by go_num, by omega, by omega, HF.out, (HR.out nq).1, (HR.out nq).2⟩
                    case measure => simp [intOf]; omega
                  · have s2 : decide (uo < p) = false := decide_eq_false huo
                    have HF : Hid (overP p uk (rs.drop (i + 1)) = (false || overP p uk (rs.drop (k + 1)))) := Lib.hid (by rw [HOV.out, HS.out, s2]; simp)
                    clear HOV HS
                    go_wp2_with fail
                    go_quiet (fail)
                    go_wp2
                    go_roundw
                    case rel => exact ⟨_, k + 1, rfl, by go_num, by omega, by omega, HF.out, (HR.out nq).1, (HR.out nq).2⟩
                    case measure => simp [intOf]; omega
                · have s1 : (uk.toList == rk.toList) = false := text_ne hkk
                  have HF : Hid (overP p rk (rs.drop (i + 1)) = (false || overP p rk (rs.drop (k + 1)))) := Lib.hid (by rw [HOV.out, HS.out]; simp [hkk])
                  clear HOV HS
                  go_wp2_with fail
                  go_quiet (fail)
                  go_wp2
                  go_roundw
                  case rel => exact ⟨_, k + 1, rfl, by go_num, by omega, by omega, HF.out, (HR.out nq).1, (HR.out nq).2⟩
                  case measure => simp [intOf]; omega
            · have e1 : decide ((k : Int) < (rs.length : Int)) = false := decide_eq_false (by omega)
              have hkr : k = rs.length := by omega
              have hov2 : overP p rk (rs.drop (i + 1)) = bb := by have := HOV.out; rw [hkr, List.drop_length] at this; rw [this]; cases bb <;> rfl
              have HY2 := HY.out
              rw [hov2] at HY2
              clear hkr hov2 hbx HOV
              cases bb with
              | true =>
                have HD : Hid (G = true) := Lib.hid (by rw [← HY2]; rfl)
                clear HY2
                go_wp2_with (first | (go_at_call 18; refine (HOLD.out _).mono ?_; rintro e w9 ⟨rfl, rfl⟩))
                go_meet
                exact ⟨by rw [HD.out], HBX.out.1, HBX.out.2⟩
              | false =>
                cases rd with
                | false =>
                  have HD : Hid (G = false) := Lib.hid (by rw [← HY2]; rfl)
                  clear HY2
                  go_wp2_with (first | (go_at_call 18; refine (HOLD.out _).mono ?_; rintro e w9 ⟨rfl, rfl⟩))
                  go_meet
                  exact ⟨by rw [HD.out], HBX.out.1, HBX.out.2⟩
                | true =>
                  cases d with
                  | false =>
                    have HD : Hid (G = false) := Lib.hid (by rw [← HY2]; rfl)
                    clear HY2
                    go_wp2_with (first | (go_at_call 18; refine (HOLD.out _).mono ?_; rintro e w9 ⟨rfl, rfl⟩))
                    go_meet
                    exact ⟨by rw [HD.out], HBX.out.1, HBX.out.2⟩
                  | true =>
                    have HD : Hid (decide (g < n - rt) = G) := Lib.hid (by rw [← HY2]; rfl)
                    clear HY2
                    go_wp2_with (first | (go_at_call 18; refine (HOLD.out _).mono ?_; rintro e w9 ⟨rfl, rfl⟩))
                    go_meet
                    exact ⟨by rw [HD.out], HBX.out.1, HBX.out.2⟩
        · have q0 : decide (ro < p) = false := decide_eq_false ho
          have HD : Hid (G = false) := Lib.hid (by rw [← HX.out, q0]; rfl)
          clear HX
          go_wp2_with fail
          go_meet
          exact ⟨by rw [HD.out], HW0.out.1, HW0.out.2⟩
      case rest =>
        obtain ⟨rfl, hb2, ho2⟩ := hcut
        have hb3 := HB.out.trans (hb2.mono hbs)
        have HB3 := Lib.hid hb3
        have HO3 := Lib.hid (OwnR.below HO.out hb2)
        have hbs3 := hb3.size
        obtain ⟨c0, c1, c2, c3, c4⟩ := rec_load (r := ⟨ro, rt, rk, rv, rd⟩) ho2
        dsimp only at c0 c1 c2 c3 c4
        clear a0 a1 a2 a3 a4 hb2 ho2 hb3 HO HB HX HOLD
        cases G with
        | true =>
          have HF : Hid (ps ++ keepL p n g d (rs.drop (i + 1)) = keepL p n g d rs) := Lib.hid HE.out
          clear HE
          go_wp2_with fail
          go_roundw
          case rel => exact ⟨i + 1, ps, by go_num, HLT.out, by rw [HK.out]; omega, HPW.out, HO3.out, HB3.out, HF.out⟩
          case measure => simp [intOf]; omega
        | false =>
          have HF : Hid ((ps ++ [⟨ro, rt, rk, rv, rd⟩]) ++ keepL p n g d (rs.drop (i + 1)) = keepL p n g d rs) := Lib.hid (by rw [List.append_assoc]; exact HE.out)
          clear HE
          go_wp2_with (at_builtin; refine wpList_append_rec rfl (.tmp 76) (.tmp 78) rfl w.heap.size (.slice B k0 c) ps rfl wc ⟨ro, rt, rk, rv, rd⟩ rfl HO3.out rfl (by rw [HK.out]; omega) hbs3 ?_; intro v4 w4 hown4 hb4 _ _; have HO4 := Lib.hid hown4; have HB4 := Lib.hid hb4; clear hown4 hb4)
          go_roundw
          case rel => exact ⟨i + 1, ps ++ [⟨ro, rt, rk, rv, rd⟩], by go_num, HLT.out, by rw [List.length_append, HK.out, List.length_singleton]; omega, fun x hx => by rcases List.mem_append.mp hx with hx | hx; exact HPW.out x hx; rcases List.mem_singleton.mp hx with rfl; exact HRW.out, HO4.out, HB3.out.trans HB4.out, HF.out⟩
          case measure => simp [intOf]; omega
    · obtain rfl : i = rs.length := by omega
      have HE : Hid (ps = keepL p n g d rs) := Lib.hid (by rw [← hE, List.drop_length]; unfold keepL; rw [List.append_nil])
      clear hE
      go_wp2_with fail
      go_ret
      exact ⟨_, rfl, by rw [← HE.out]; exact HO.out, HB.out⟩
end Go.Proofs.Ytjblhfhfappmoaa
