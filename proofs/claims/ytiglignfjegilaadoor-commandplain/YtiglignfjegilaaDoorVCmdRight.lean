/- A contract of the program's own Right of commands. -/
import Derived.Test.YtiglignfjegilaaDoorVWithin
import Derived.Test.YtiglignfjegilaaDoorVWipe
import Derived.Test.YtiglignfjegilaaDoorVCmdSame
import Derived.Test.YtiglignfjegilaaDoorCmdWords
import Derived.Deep.DeepCutAuto
namespace Go.Proofs.YtiglignfjegilaaDoor
open Go.RowKit

theorem FieldsLie.keep {w w' : World} {base g : Nat} {A : Option Addr} {fs : List Fld} (h : FieldsLie w base A g fs) (hg : w.grownBy w' (some g)) (hb : g < base) : FieldsLie w' base A g fs := fun hn => by
  obtain ⟨b, e, h1, h2, h3⟩ := h hn
  exact ⟨b, e, h1, Nat.lt_of_lt_of_le h2 hg.size, fun i hi => (World.cell?_of_block (a := ⟨b, i, none⟩) (hg.block b h2 fun e => by injection e with e; omega)).trans (h3 i hi)⟩
theorem below_grow {B : Nat} {w w' : World} (h : Below B w w') (hB : w.heap.size ≤ B) (r : Option Nat) : w.grownBy w' r := ⟨h.os, h.tape, h.output, h.size, fun k hk _ => h.block k (Nat.lt_of_lt_of_le hk hB)⟩
theorem grow_below {w w' w'' : World} {g : Nat} (h : Below w.heap.size w w') (hg : w'.grownBy w'' (some g)) (hb : w.heap.size ≤ g) : Below w.heap.size w w'' := h.grown hg h.size (fun k e => by injection e with e; omega)
theorem FieldsLie.at_ {w : World} {base g : Nat} {A : Option Addr} {fs : List Fld} (h : FieldsLie w base A g fs) {i : Nat} (hi : i < fs.length) : ∃ b, A = some ⟨b, 0, none⟩ ∧ w.cell? ⟨b, i, none⟩ = some (faceF g fs[i]) := by
  obtain ⟨b, e, _, _, h3⟩ := h (by rintro rfl; cases hi)
  exact ⟨b, e, h3 i hi⟩
theorem setNum_wf {c : Cmd} (h : c.wf) (k : Nat) {x : Int} (h0 : -9223372036854775808 ≤ x) (h1 : x ≤ 9223372036854775807) : (c.setNum k x).wf := by
  obtain ⟨a1, a2, a3, a4, a5, a6, a7, a8, a9, a10, a11, a12, a13⟩ := h
  unfold Cmd.setNum
  split <;> constructor <;> first | exact ⟨h0, h1⟩ | assumption
theorem wipe_wf {c : Cmd} (h : c.wf) (f : Fld) : (f.wipe c).wf := by
  cases f with
  | num k lo hi => exact setNum_wf h k (by decide) (by decide)
  | recs =>
    obtain ⟨a1, a2, a3, a4, a5, a6, a7, a8, a9, a10, a11, a12, a13⟩ := h
    exact ⟨a1, a2, a3, fun _ hr => (by cases hr), a5, a6, a7, a8, a9, a10, a11, a12, a13⟩
  | group =>
    obtain ⟨a1, a2, a3, a4, a5, a6, a7, a8, a9, a10, a11, a12, a13⟩ := h
    exact ⟨a1, a2, a3, a4, by show (0 : Nat) ≤ _; decide, a6, a7, a8, a9, a10, a11, a12, a13⟩
  | sum =>
    obtain ⟨a1, a2, a3, a4, a5, a6, a7, a8, a9, a10, a11, a12, a13⟩ := h
    exact ⟨a1, a2, a3, a4, a5, a6, a7, a8, by show (0 : Int) ≤ 0 ∧ (0 : Int) ≤ _; decide, a10, a11, a12, a13⟩
theorem wipe_recs (c : Cmd) (f : Fld) : (f.wipe c).recs = c.recs ∧ (∀ v, wipeV v f = v) ∨ (f.wipe c).recs = [] ∧ ∀ v, wipeV v f = .slice none 0 0 := by
  cases f with
  | num k lo hi =>
    refine .inl ⟨?_, fun _ => rfl⟩
    show (c.setNum k 0).recs = _
    unfold Cmd.setNum
    split <;> rfl
  | recs => exact .inr ⟨rfl, fun _ => rfl⟩
  | group => exact .inl ⟨rfl, fun _ => rfl⟩
  | sum => exact .inl ⟨rfl, fun _ => rfl⟩
/-- The command that is left while Right wipes it: where it lies, and what it still has to meet. -/
def Left10 (w : World) (g : Nat) (P : Prop) (fs : List Fld) (W : World) : Prop :=
  ∃ (c : Cmd) (A : Option Addr) (cap : Nat), W.heap[g]? = some (cmdO (.slice A c.recs.length cap) c) ∧ RecsLie w A c.recs cap ∧ c.wf ∧ (P ↔ restOk fs c)
theorem Left10.below {w W W' : World} {g : Nat} {P : Prop} {fs : List Fld} (h : Left10 w g P fs W) (hb : Below W.heap.size W W') : Left10 w g P fs W' := by
  obtain ⟨c, A, cap, h1, h2⟩ := h
  exact ⟨c, A, cap, block_keep h1 hb, h2⟩
theorem rest_cons {P : Prop} {f : Fld} {fs : List Fld} {c : Cmd} (h : P ↔ restOk (f :: fs) c) (hf : f.ok c) : P ↔ restOk fs (f.wipe c) := h.trans ⟨fun x => x.2, fun x => ⟨hf, x⟩⟩
set_option maxHeartbeats 1600000 in
theorem vcright_any (w : World) (hT : Tabs w) (A : Option Addr) (cap : Nat) (c : Cmd) (h : RecsLie w A c.recs cap) (hw : c.wf) :
    Calls Tryd.prog 9 #[cmdV (.slice A c.recs.length cap) c] w (fun e w' => e = .returned (.bool (decide c.right)) ∧ Below w.heap.size w w') := by
  have hrr := right_rest c
  have hgood := fieldsK_good c.kind
  have hfl := fieldsK_length c.kind
  have HB := Lib.hid ((Below.refl w.heap.size w).alloc (Nat.le_refl _) (cmdO (.slice A c.recs.length cap) c))
  have hnew := cmd_new w (.slice A c.recs.length cap) c
  have HF := Lib.hid (fields_any (w.alloc (cmdO (.slice A c.recs.length cap) c)) w.heap.size _ c hnew)
  obtain ⟨c0, c1, c2, _⟩ := cmd_at hnew
  have HNEW := Lib.hid hnew
  have HW := Lib.hid hw
  have HR := Lib.hid h
  have HT := Lib.hid hT
  obtain ⟨W, hW⟩ : ∃ W, w.alloc (cmdO (.slice A c.recs.length cap) c) = W := ⟨_, rfl⟩
  have hWs : W.heap.size = w.heap.size + 1 := by rw [← hW]; simp
  rw [hW] at HB HF HNEW c0 c1 c2
  unfold cmdV
  unfold cmdO at hW
  have HWS := Lib.hid hWs
  clear hnew h hw hT hWs
  obtain ⟨fs, hfs⟩ : ∃ fs, fieldsK c.kind = fs := ⟨_, rfl⟩
  unfold TellsFields at HF
  rw [hfs] at HF hrr hgood hfl
  clear hfs
  obtain ⟨d, hd⟩ : ∃ d, decide c.right = d := ⟨_, rfl⟩
  have hdr : d = true ↔ known c.kind ∧ ¬ (c.kind = 1 ∧ c.pid = 0 ∧ c.seq ≠ 0) ∧ restOk fs c := by rw [← hd, decide_eq_true_iff]; exact hrr
  rw [hd]
  clear hd hrr
  obtain ⟨L, hL⟩ : ∃ L, fs.length = L := ⟨_, rfl⟩
  rw [hL] at HF hfl
  have HDR := Lib.hid hdr
  have HGD := Lib.hid hgood
  have HLL := Lib.hid hL
  clear hdr hgood hL
  go_enter Tryd.func9, Tryd.ntmps9
  go_wp2_with fail
  refine HF.out.mono ?_
  rintro e W1 ⟨B, rfl, hb1, hl1⟩
  have HB1 := Lib.hid (HB.out.trans (hb1.mono HB.out.size))
  have k0 := (hb1.cell (p := ⟨w.heap.size, 0, none⟩) (cell_block_lt c0)).trans c0
  have k1 := (hb1.cell (p := ⟨w.heap.size, 1, none⟩) (cell_block_lt c1)).trans c1
  have k2 := (hb1.cell (p := ⟨w.heap.size, 2, none⟩) (cell_block_lt c2)).trans c2
  have HN1 := Lib.hid (block_keep HNEW.out hb1)
  have HL1 : Hid (FieldsLie W1 (w.heap.size + 1) B w.heap.size fs) := Lib.hid (by rw [← HWS.out]; exact hl1)
  clear hb1 hl1 c0 c1 c2 HF HNEW HB
  by_cases hk : known c.kind
  · have hkd : decide (known c.kind) = true := decide_eq_true hk
    rw [hkd]
    have HK := Lib.hid hk
    clear hkd hk
    go_upto_region 4 with fail
    go_cut [25] (fun s wx => (∃ t : Bool, s = .bool t ∧ (t = true ↔ c.kind = 1 ∧ c.pid = 0 ∧ c.seq ≠ 0)) ∧ wx = W1)
    case first =>
      by_cases q1 : c.kind = 1
      · have b1 : (c.kind == 1) = true := by simpa using q1
        by_cases q2 : c.pid = 0
        · have b2 : (c.pid == 0) = true := by simpa using q2
          by_cases q3 : c.seq = 0
          · have b3 : (c.seq != 0) = false := by simpa using q3
            have HE : Hid (∃ t : Bool, Value.bool false = .bool t ∧ (t = true ↔ c.kind = 1 ∧ c.pid = 0 ∧ c.seq ≠ 0)) := Lib.hid ⟨false, rfl, by simp [q3]⟩
            clear q1 q2 q3
            go_wp2_with fail
            all_goals go_meet
            all_goals exact ⟨HE.out, rfl⟩
          · have b3 : (c.seq != 0) = true := by simpa using q3
            have HE : Hid (∃ t : Bool, Value.bool true = .bool t ∧ (t = true ↔ c.kind = 1 ∧ c.pid = 0 ∧ c.seq ≠ 0)) := Lib.hid ⟨true, rfl, by simp [q1, q2, q3]⟩
            clear q1 q2 q3
            go_wp2_with fail
            all_goals go_meet
            all_goals exact ⟨HE.out, rfl⟩
        · have b2 : (c.pid == 0) = false := by simpa using q2
          have HE : Hid (∃ t : Bool, Value.bool false = .bool t ∧ (t = true ↔ c.kind = 1 ∧ c.pid = 0 ∧ c.seq ≠ 0)) := Lib.hid ⟨false, rfl, by simp [q2]⟩
          clear q1 q2
          go_wp2_with fail
          all_goals go_meet
          all_goals exact ⟨HE.out, rfl⟩
      · have b1 : (c.kind == 1) = false := by simpa using q1
        have HE : Hid (∃ t : Bool, Value.bool false = .bool t ∧ (t = true ↔ c.kind = 1 ∧ c.pid = 0 ∧ c.seq ≠ 0)) := Lib.hid ⟨false, rfl, by simp [q1]⟩
        clear q1
        go_wp2_with fail
        all_goals go_meet
        all_goals exact ⟨HE.out, rfl⟩
    case rest =>
      obtain ⟨⟨t, rfl, ht⟩, hwc⟩ := hcut
      subst hwc
      cases t with
      | true =>
        have HD : Hid (d = false) := Lib.hid (by
          cases d with
          | false => rfl
          | true => exact absurd (ht.1 rfl) (HDR.out.1 rfl).2.1)
        clear ht
        go_wp2_with fail
        go_ret
        exact ⟨congrArg (fun b => Ending.returned (.bool b)) HD.out.symm, HB1.out⟩
      | false =>
        have HP : Hid (d = true ↔ restOk fs c) := Lib.hid (HDR.out.trans ⟨fun x => x.2.2, fun x => ⟨HK.out, fun y => absurd (ht.2 y) (by decide), x⟩⟩)
        clear ht HDR k0 k1 k2
        have hbs1 := HB1.out.size
        go_wp2_with fail
        go_loopw [28] (fun iv wr => ∃ i : Nat, iv = .int .i64 i ∧ i ≤ L ∧ Left10 w w.heap.size (d = true) (fs.drop i) wr ∧ FieldsLie wr (w.heap.size + 1) B w.heap.size fs ∧ Below w.heap.size w wr) (fun iv _ => L - (intOf iv).toNat)
        case atStart => exact ⟨0, rfl, Nat.zero_le _, ⟨c, A, cap, HN1.out, HR.out, HW.out, HP.out⟩, HL1.out, HB1.out⟩
        case round =>
          obtain ⟨i, rfl, hi, ⟨ci, Ai, capi, hbl, hrl, hwf, hiff⟩, hfl2, hbel⟩ := hrel
          by_cases hlt : i < L
          · have hlt2 : i < fs.length := by rw [HLL.out]; exact hlt
            obtain ⟨b, rfl, hcell⟩ := hfl2.at_ hlt2
            rw [List.drop_eq_getElem_cons hlt2] at hiff
            have HG := Lib.hid (HGD.out _ (List.getElem_mem hlt2))
            obtain ⟨f, hf⟩ : ∃ f, fs[i] = f := ⟨_, rfl⟩
            rw [hf] at hcell hiff HG
            have HWI := Lib.hid (within_any wr (HT.out.below hbel) w.heap.size Ai capi ci f HG.out hbl (hrl.below hbel (Nat.le_refl _)) hwf.group)
            have HBL := Lib.hid hbl
            have HRL := Lib.hid hrl
            have HWF := Lib.hid hwf
            have HFL := Lib.hid hfl2
            have HBE := Lib.hid hbel
            have HI := Lib.hid hiff
            clear hf hbl hrl hwf hfl2 hbel hiff
            by_cases hok : f.ok ci
            · have hq : decide (f.ok ci) = true := decide_eq_true hok
              rw [hq] at HWI
              have HOK := Lib.hid hok
              clear hok hq
              go_wp2_with (first | (go_at_call 17; refine HWI.out.mono ?_; rintro e w2 ⟨rfl, hb2⟩; have HB2 := Lib.hid hb2; have HWP := Lib.hid (wipe_any w2 w.heap.size _ ci f HG.out (block_keep HBL.out hb2)); clear hb2) | (go_at_call 18; refine HWP.out.mono ?_; rintro e w3 ⟨rfl, hg3, hc3⟩; have HG3 := Lib.hid hg3; have HC3 := Lib.hid hc3; clear hg3 hc3))
              go_roundw
              case rel =>
                have hgw : wr.grownBy w2 (some w.heap.size) := below_grow HB2.out (Nat.le_refl _) _
                refine ⟨i + 1, by go_num, hlt, ?_, (HFL.out.keep hgw (Nat.lt_succ_self _)).keep HG3.out (Nat.lt_succ_self _), grow_below (HBE.out.trans (HB2.out.mono HBE.out.size)) HG3.out (Nat.le_refl _)⟩
                have hc := HC3.out
                rcases wipe_recs ci f with ⟨h1, h2⟩ | ⟨h1, h2⟩
                · refine ⟨f.wipe ci, Ai, capi, ?_, by rw [h1]; exact HRL.out, wipe_wf HWF.out f, rest_cons HI.out HOK.out⟩
                  rw [h1]
                  rw [h2] at hc
                  exact hc
                · refine ⟨f.wipe ci, none, 0, ?_, by rw [h1]; exact RecsLie.none _, wipe_wf HWF.out f, rest_cons HI.out HOK.out⟩
                  rw [h1]
                  rw [h2] at hc
                  exact hc
              case measure => simp [intOf]; omega
            · have hq : decide (f.ok ci) = false := decide_eq_false hok
              rw [hq] at HWI
              have HD : Hid (d = false) := Lib.hid (by
                cases d with
                | false => rfl
                | true => exact absurd (HI.out.1 rfl).1 hok)
              clear hok hq
              go_wp2_with (go_at_call 17; refine HWI.out.mono ?_; rintro e w2 ⟨rfl, hb2⟩; have HB2 := Lib.hid (HBE.out.trans (hb2.mono HBE.out.size)); clear hb2)
              go_ret
              exact ⟨congrArg (fun b => Ending.returned (.bool b)) HD.out.symm, HB2.out⟩
          · obtain rfl : i = L := by omega
            rw [List.drop_of_length_le (by rw [HLL.out]; exact Nat.le_refl _)] at hiff
            have hcs := cmd_at hbl
            obtain ⟨g0, g1, g2, g3, g4, g5, g6, g7, g8, g9, g10, g11, g12⟩ := hcs
            have HSM := Lib.hid (vcsame_any wr ci { zeroCmd with kind := ci.kind } Ai none capi 0 (hrl.below hbel (Nat.le_refl _)) (RecsLie.none _))
            have HI : Hid (d = true ↔ ci = { zeroCmd with kind := ci.kind }) := Lib.hid hiff
            have HBE := Lib.hid hbel
            unfold cmdV at HSM
            clear hbl hrl hwf hfl2 hbel hiff
            go_wp2_with (go_at_call 15; refine HSM.out.mono ?_; rintro e w2 ⟨s, rfl, hs, hb2⟩; have HS2 := Lib.hid hs; have HB2 := Lib.hid (HBE.out.trans (hb2.mono HBE.out.size)); clear hb2 hs)
            go_ret
            refine ⟨congrArg (fun b => Ending.returned (.bool b)) ?_, HB2.out⟩
            have h1 := HS2.out
            have h2 := HI.out
            cases s <;> cases d
            · rfl
            · exact h1.2 (h2.1 rfl)
            · exact (h2.2 (h1.1 rfl)).symm
            · rfl
  · have hkd : decide (known c.kind) = false := decide_eq_false hk
    have HD : Hid (d = false) := Lib.hid (by
      cases d with
      | false => rfl
      | true => exact absurd (HDR.out.1 rfl).1 hk)
    rw [hkd]
    clear hkd hk
    go_wp2_with fail
    go_ret
    exact ⟨congrArg (fun b => Ending.returned (.bool b)) HD.out.symm, HB1.out⟩
end Go.Proofs.YtiglignfjegilaaDoor
