/- Proved: for every two numbers kind and field, CommandPlain(kind, field) returns true. -/
import Derived.Test.YtiglignfjegilaaDoorRows
import Derived.WalkKit
import Derived.ProofKit
import Derived.OpenShut
import Derived.ShutString
import Derived.ChangeOld
import Derived.Below
import Derived.LaidMore
import Derived.Stop.Joined
import Derived.SevenTiedAt
import Derived.Lay
import Derived.Deep.DeepCutAuto
import Derived.Deep.CutBlock
import Derived.Test.YtiglignfjegilaaDoorCards
import Derived.Test.YtiglignfjegilaaDoorTie
import Derived.Test.YtiglignfjegilaaDoorCame
import Derived.Test.YtiglignfjegilaaDoorCmdPl
import Derived.Test.YtiglignfjegilaaDoorCmdAlive
namespace Go.Proofs.YtiglignfjegilaaDoor.commandPlain
open Go.ChangeShapes Go.WideShapes Go.ChangeAt Go.RowKit
open Go.ChangeMaps (open_string shut_string)
set_option linter.unusedVariables false

theorem own : ownKnob Tryd.prog.godebug = none := by kernel_rfl
theorem laidOut : laidOutB Tryd.prog = true := by kernel_rfl

def IsRow (k : IntKind) (w : World) (a : Option Addr) (len cap : Nat) (zs : List Int) : Prop :=
  (a = none ∧ len = 0 ∧ cap = 0 ∧ zs = []) ∨
  ∃ x, a = some x ∧ len ≤ cap ∧ cap ≤ maxLen ∧ zs.length = cap ∧ (∀ i, i < zs.length → w.cell? (x.add i) = some (.int k (zs.getD i 0))) ∧ ∀ n ∈ zs, (Lit.int k n).wf = true

set_option maxHeartbeats 6400000 in
set_option maxRecDepth 100000 in
theorem walk (a0 : Int) (a1 : Int) (w : World) (hh : Tabs w) (w0 : (Lit.int .i64 a0).wf = true) (w1 : (Lit.int .i64 a1).wf = true) :
    Calls Tryd.prog 6 #[.int .i64 a0, .int .i64 a1] w fun e w' => e = .returned (.bool true) ∧ Below w.heap.size w w' := by
  have HT := Lib.hid hh
  have HAL := Lib.hid (alive10_any w hh)
  clear w0 w1 hh
  by_cases h_lo : a0 < 0
  · have q_h_lo : decide (a0 < 0) = true := decide_eq_true h_lo
    clear h_lo
    go_enter Tryd.func6, Tryd.ntmps6
    go_wp2_with fail
    refine HAL.out.mono ?_
    rintro e w2 ⟨rfl, hb2⟩
    go_wp2_with fail
    go_ret
    exact ⟨rfl, hb2⟩
  · have q_h_lo : decide (a0 < 0) = false := decide_eq_false h_lo
    by_cases h_hi : 11 < a0
    · have q_h_hi : decide ((11 : Int) < a0) = true := decide_eq_true h_hi
      clear h_lo h_hi
      go_enter Tryd.func6, Tryd.ntmps6
      go_wp2_with fail
      refine HAL.out.mono ?_
      rintro e w2 ⟨rfl, hb2⟩
      go_wp2_with fail
      go_ret
      exact ⟨rfl, hb2⟩
    · have q_h_hi : decide ((11 : Int) < a0) = false := decide_eq_false h_hi
      by_cases h_flo : a1 < 0
      · have q_h_flo : decide (a1 < 0) = true := decide_eq_true h_flo
        clear h_lo h_hi h_flo
        go_enter Tryd.func6, Tryd.ntmps6
        go_wp2_with fail
        refine HAL.out.mono ?_
        rintro e w2 ⟨rfl, hb2⟩
        go_wp2_with fail
        go_ret
        exact ⟨rfl, hb2⟩
      · have q_h_flo : decide (a1 < 0) = false := decide_eq_false h_flo
        by_cases h_fhi : 8 < a1
        · have q_h_fhi : decide ((8 : Int) < a1) = true := decide_eq_true h_fhi
          clear h_lo h_hi h_flo h_fhi
          go_enter Tryd.func6, Tryd.ntmps6
          go_wp2_with fail
          refine HAL.out.mono ?_
          rintro e w2 ⟨rfl, hb2⟩
          go_wp2_with fail
          go_ret
          exact ⟨rfl, hb2⟩
        · have q_h_fhi : decide ((8 : Int) < a1) = false := decide_eq_false h_fhi
          obtain ⟨k, rfl⟩ : ∃ k : Nat, a0 = (k : Int) := ⟨a0.toNat, by omega⟩
          obtain ⟨f, rfl⟩ : ∃ f : Nat, a1 = (f : Int) := ⟨a1.toNat, by omega⟩
          have hk : k < 12 := by omega
          have hf : f < 9 := by omega
          clear h_lo h_hi h_flo h_fhi
          go_enter Tryd.func6, Tryd.ntmps6
          go_wp2_with fail
          refine HAL.out.mono ?_
          rintro e w2 ⟨rfl, hb2⟩
          have HB2 := Lib.hid hb2
          have HBS2 := Lib.hid hb2.size
          clear hb2 HAL
          go_upto_region 6 with fail
          go_cut [8] (fun v8 wx => v8 = .slice (some ⟨w2.heap.size + 1 + 1, 0, none⟩) 12 12 ∧ Below w2.heap.size w2 wx ∧ wx.heap[w2.heap.size]? = some (.cells #[.int .i64 0, .int .i64 0, .string ⟨#[97]⟩, .string ⟨#[]⟩, .bool false] 39 (0, 0)) ∧ wx.heap[w2.heap.size + 1]? = some (.cells (baseL (.slice (some ⟨w2.heap.size, 0, none⟩) 1 1)).toArray 27 (0, 0)) ∧ wx.heap[w2.heap.size + 1 + 1]? = some (.cells namesV.toArray 9 (0, 0)))
          case first =>
            go_wp2_with fail
            go_meet
            refine ⟨rfl, (((Below.refl w2.heap.size w2).alloc (Nat.le_refl _) _).alloc (by simp) _).alloc (by simp; omega) _, ?_, ?_, ?_⟩
            · rw [Below.heap_alloc _ _ _ (by simp; omega), Below.heap_alloc _ _ _ (by simp), heap_alloc_new]
            · rw [Below.heap_alloc _ _ _ (by simp)]
              exact alloc_spot (by simp) rfl
            · exact alloc_spot (by simp) rfl
          case rest =>
            obtain ⟨rfl, hbx, hr, hb, hn⟩ := hcut
            generalize wc = w3 at *
            obtain ⟨A1, cap1, hv, hli⟩ := recsV_lie w2.heap.size k
            have cb : ∀ j, j < 13 → w3.cell? ⟨w2.heap.size + 1, k * 13 + j, none⟩ = (cmdCells (.slice A1 (plainC k).recs.length cap1) (plainC k))[j]? := fun j hj => by
              rw [← hv, ← base_at _ k hk j hj]
              unfold World.cell?
              rw [hb]
              simp
            have HB3 := Lib.hid (HB2.out.trans (hbx.mono HB2.out.size))
            have HR3 := Lib.hid hr
            have HN3 := Lib.hid hn
            have HLI := Lib.hid hli
            have HLT := Lib.hid (Array.getElem?_eq_some_iff.1 hn).1
            have hwf := Cmd.small_wf (plainC_small k hk)
            have hrt := plainC_right k hk
            have HTR := Lib.hid (fun f hf => turnC_right k hk f hf)
            have HTW := Lib.hid (fun f hf => Cmd.small_wf (turnC_small k hk f hf))
            have HKK := Lib.hid hk
            obtain ⟨C, hC⟩ : ∃ C, plainC k = C := ⟨_, rfl⟩
            rw [hC] at cb hwf hrt HLI
            obtain ⟨n, hn0⟩ : ∃ n, C.recs.length = n := ⟨_, rfl⟩
            have HCC := Lib.hid hC
            have c0 := cb 0 (by omega)
            have c1 := cb 1 (by omega)
            have c2 := cb 2 (by omega)
            have c3 := cb 3 (by omega)
            have c4 := cb 4 (by omega)
            have c5 := cb 5 (by omega)
            have c6 := cb 6 (by omega)
            have c7 := cb 7 (by omega)
            have c8 := cb 8 (by omega)
            have c9 := cb 9 (by omega)
            have c10 := cb 10 (by omega)
            have c11 := cb 11 (by omega)
            have c12 := cb 12 (by omega)
            simp only [cmdCells, List.getElem?_cons_zero, List.getElem?_cons_succ, Nat.add_zero] at c0 c1 c2 c3 c4 c5 c6 c7 c8 c9 c10 c11 c12
            have HB4 := Lib.hid (HB3.out.alloc HB3.out.size (cmdO (.slice A1 C.recs.length cap1) C))
            have HG4 := Lib.hid (cmd_new w3 (.slice A1 C.recs.length cap1) C)
            have hr4 := block_keep HR3.out ((Below.refl w3.heap.size w3).alloc (Nat.le_refl _) (cmdO (.slice A1 C.recs.length cap1) C))
            have hn4 := block_keep HN3.out ((Below.refl w3.heap.size w3).alloc (Nat.le_refl _) (cmdO (.slice A1 C.recs.length cap1) C))
            have HR4 := Lib.hid hr4
            have HN4 := Lib.hid hn4
            have H4 := Lib.hid (vcright_any (w3.alloc (cmdO (.slice A1 C.recs.length cap1) C)) (HT.out.below HB4.out) A1 cap1 C (HLI.out _ hr4) hwf)
            rw [decide_eq_true hrt] at H4
            unfold cmdV cmdO at H4
            unfold cmdO at HB4 HG4 HR4 HN4
            clear cb hwf hrt hC hr hb hn hbx hv hli hr4 hn4 HR3 HN3 hn0
            go_wp2_with fail
            refine H4.out.mono ?_
            rintro e w5 ⟨rfl, hb5⟩
            have HB5 := Lib.hid (HB4.out.trans (hb5.mono HB4.out.size))
            have HG5 := Lib.hid (block_keep HG4.out hb5)
            have HR5 := Lib.hid (block_keep HR4.out hb5)
            have HN5 := Lib.hid (block_keep HN4.out hb5)
            clear c0 c1 c2 c3 c4 c5 c6 c7 c8 c9 c10 c11 c12 H4 hb5 HB4 HG4 HR4 HN4 HB3 HB2
            have h5 : w5.heap[w3.heap.size]? = some (cmdO (.slice A1 (plainC k).recs.length cap1) (plainC k)) := by rw [HCC.out]; exact HG5.out
            have hli5 : ∀ W : World, W.heap[w2.heap.size]? = some aRecO → RecsLie W A1 (plainC k).recs cap1 := by rw [HCC.out]; exact HLI.out
            have HLI5 := Lib.hid hli5
            have H5 := Lib.hid h5
            clear hli5 HG5 HLI HCC
            obtain ⟨g, hg⟩ : ∃ g, w3.heap.size = g := ⟨_, rfl⟩
            rw [hg] at h5 H5 HLT
            rw [hg]
            clear hg
            obtain ⟨nm, hnm⟩ : ∃ nm, w2.heap.size + 1 + 1 = nm := ⟨_, rfl⟩
            have HGW : Hid (w.heap.size ≤ g) := Lib.hid (Nat.le_trans HBS2.out (by have := HLT.out; omega))
            have HNE : Hid (w2.heap.size ≠ g ∧ nm ≠ g) := Lib.hid (by have := HLT.out; omega)
            rw [hnm] at HN5
            rw [hnm]
            clear hnm HLT
            go_upto_block 0 with fail
            have fz := cmd_free h5
            obtain ⟨c0, c1, c2, c3, c4, c5, c6, c7, c8, c9, c10, c11, c12⟩ := cmd_at h5
            have hgb : w.heap.size ≤ g := HGW.out
            have HK1 : ∀ (j : Nat) (x : Value), Hid ((w5.setCell ⟨g, j, none⟩ x).heap[w2.heap.size]? = some aRecO ∧ (w5.setCell ⟨g, j, none⟩ x).heap[nm]? = some (Obj.cells namesV.toArray 9 (0, 0)) ∧ Below w.heap.size w (w5.setCell ⟨g, j, none⟩ x)) := fun j x => Lib.hid
              ⟨(heap_setCell_other w5 ⟨g, j, none⟩ _ x HNE.out.1).trans HR5.out, (heap_setCell_other w5 ⟨g, j, none⟩ _ x HNE.out.2).trans HN5.out, HB5.out.setCell hgb x⟩
            have HK2 : ∀ (i j : Nat) (y x : Value), Hid (((w5.setCell ⟨g, i, none⟩ y).setCell ⟨g, j, none⟩ x).heap[w2.heap.size]? = some aRecO ∧ ((w5.setCell ⟨g, i, none⟩ y).setCell ⟨g, j, none⟩ x).heap[nm]? = some (Obj.cells namesV.toArray 9 (0, 0)) ∧ Below w.heap.size w ((w5.setCell ⟨g, i, none⟩ y).setCell ⟨g, j, none⟩ x)) := fun i j y x => Lib.hid
              ⟨(heap_setCell_other _ ⟨g, j, none⟩ _ x HNE.out.1).trans (HK1 i y).out.1, (heap_setCell_other _ ⟨g, j, none⟩ _ x HNE.out.2).trans (HK1 i y).out.2.1, (HK1 i y).out.2.2.setCell hgb x⟩
            have z1 := fz 1
            have z2 := fz 2
            have z3 := fz 3
            have z4 := fz 4
            have z5 := fz 5
            have z6 := fz 6
            have z7 := fz 7
            have z8 := fz 8
            have z9 := fz 9
            clear fz h5 hgb
            go_cut [58] (fun _ wx => ∃ A2 cap2, wx.heap[g]? = some (cmdO (.slice A2 (turnC k f).recs.length cap2) (turnC k f)) ∧ RecsLie wx A2 (turnC k f).recs cap2 ∧ wx.heap[nm]? = some (Obj.cells namesV.toArray 9 (0, 0)) ∧ Below w.heap.size w wx)
            case first =>
              have hf9 : f = 0 ∨ f = 1 ∨ f = 2 ∨ f = 3 ∨ f = 4 ∨ f = 5 ∨ f = 6 ∨ f = 7 ∨ f = 8 := by omega
              clear q_h_lo q_h_hi q_h_flo q_h_fhi hf
              rcases hf9 with rfl | rfl | rfl | rfl | rfl | rfl | rfl | rfl | rfl
              · go_wp2_with fail
                all_goals go_meet
                all_goals exact ⟨A1, cap1, turn_0 H5.out, HLI5.out _ (HK1 1 (.int .i64 1)).out.1, (HK1 1 (.int .i64 1)).out.2⟩
              · by_cases hk1 : k = 1
                · subst hk1
                  go_wp2_with fail
                  all_goals go_meet
                  all_goals exact ⟨A1, cap1, turn_1b H5.out, HLI5.out _ (HK2 2 1 (.int .i64 1) (.int .i64 1)).out.1, (HK2 2 1 (.int .i64 1) (.int .i64 1)).out.2⟩
                · have hk1b : ((k : Int) == 1) = false := by simp; omega
                  have HK := Lib.hid hk1
                  clear hk1
                  go_wp2_with fail
                  all_goals go_meet
                  all_goals exact ⟨A1, cap1, by rw [turnC_recs k 1 (by decide)]; exact turn_1 HK.out H5.out, by rw [turnC_recs k 1 (by decide)]; exact HLI5.out _ (HK1 2 (.int .i64 1)).out.1, (HK1 2 (.int .i64 1)).out.2⟩
              · go_wp2_with fail
                all_goals go_meet
                all_goals exact ⟨some ⟨w2.heap.size, 0, none⟩, 1, turn_2 _ H5.out, aRec_lie (HK1 3 (.slice (some ⟨w2.heap.size, 0, none⟩) 1 1)).out.1, (HK1 3 (.slice (some ⟨w2.heap.size, 0, none⟩) 1 1)).out.2⟩
              · go_wp2_with fail
                all_goals go_meet
                all_goals exact ⟨A1, cap1, turn_3 H5.out, HLI5.out _ (HK1 4 (.string ⟨#[104]⟩)).out.1, (HK1 4 (.string ⟨#[104]⟩)).out.2⟩
              · go_wp2_with fail
                all_goals go_meet
                all_goals exact ⟨A1, cap1, turn_4 H5.out, HLI5.out _ (HK1 5 (.int .i64 1)).out.1, (HK1 5 (.int .i64 1)).out.2⟩
              · go_wp2_with fail
                all_goals go_meet
                all_goals exact ⟨A1, cap1, turn_5 H5.out, HLI5.out _ (HK1 6 (.int .i64 1)).out.1, (HK1 6 (.int .i64 1)).out.2⟩
              · go_wp2_with fail
                all_goals go_meet
                all_goals exact ⟨A1, cap1, turn_6 H5.out, HLI5.out _ (HK1 7 (.int .i64 1)).out.1, (HK1 7 (.int .i64 1)).out.2⟩
              · go_wp2_with fail
                all_goals go_meet
                all_goals exact ⟨A1, cap1, turn_7 H5.out, HLI5.out _ (HK1 8 (.int .u32 1)).out.1, (HK1 8 (.int .u32 1)).out.2⟩
              · go_wp2_with fail
                all_goals go_meet
                all_goals exact ⟨A1, cap1, turn_8 H5.out, HLI5.out _ (HK1 9 (.int .i64 2)).out.1, (HK1 9 (.int .i64 2)).out.2⟩
            case rest =>
              obtain ⟨A2, cap2, hc6, hr6, hn6, hb6⟩ := hcut
              generalize wc = w6 at *
              clear c0 c1 c2 c3 c4 c5 c6 c7 c8 c9 c10 c11 c12 z1 z2 z3 z4 z5 z6 z7 z8 z9 HK1 HK2
              have HB6 := Lib.hid hb6
              have HC6 := Lib.hid hc6
              have HN6 := Lib.hid hn6
              have H6 := Lib.hid (vcright_any w6.drew (HT.out.below hb6.drew) A2 cap2 (turnC k f) hr6 (HTW.out f hf))
              rw [HTR.out f hf] at H6
              have hnk := names_at k hk
              have HNG := Lib.hid (name_bit k hk f hf)
              have hnl := name_len k hk
              obtain ⟨D, hD⟩ : ∃ D, turnC k f = D := ⟨_, rfl⟩
              rw [hD] at H6 HC6 hc6 hr6
              obtain ⟨S, hS⟩ : ∃ S, nameC k = S := ⟨_, rfl⟩
              rw [hS] at hnk HNG hnl
              unfold cmdV at H6
              have hcn : w6.cell? ⟨nm, k, none⟩ = some (.string S) := by
                unfold World.cell?
                rw [hn6]
                simpa using hnk
              have hcd := cmd_at hc6
              clear hD hS hb6 hc6 hn6 hr6 hnk HTR HTW H5 HLI5 HNE HN5 HR5
              have hk12 : (k : Int) < 12 := by omega
              have hf9i : (f : Int) < 9 := by omega
              have HSN : Hid (∀ W : World, Below w6.heap.size w6 W → (W.cell? ⟨nm, k, none⟩ = some (.string S))) := Lib.hid fun W hb => (hb.cell (p := ⟨nm, k, none⟩) (cell_block_lt hcn)).trans hcn
              have HCS : Hid (∀ W : World, Below w6.heap.size w6 W → W.cell? ⟨g, 0, none⟩ = some (.int .i64 D.kind) ∧ W.cell? ⟨g, 1, none⟩ = some (.int .i64 D.pid) ∧ W.cell? ⟨g, 2, none⟩ = some (.int .i64 D.seq) ∧ W.cell? ⟨g, 3, none⟩ = some (.slice A2 D.recs.length cap2) ∧ W.cell? ⟨g, 4, none⟩ = some (.string D.group) ∧ W.cell? ⟨g, 5, none⟩ = some (.int .i64 D.off) ∧ W.cell? ⟨g, 6, none⟩ = some (.int .i64 D.max) ∧ W.cell? ⟨g, 7, none⟩ = some (.int .i64 D.now) ∧ W.cell? ⟨g, 8, none⟩ = some (.int .u32 D.sum) ∧ W.cell? ⟨g, 9, none⟩ = some (.int .i64 D.seg) ∧ W.cell? ⟨g, 10, none⟩ = some (.int .i64 D.keep) ∧ W.cell? ⟨g, 11, none⟩ = some (.int .i64 D.age) ∧ W.cell? ⟨g, 12, none⟩ = some (.int .i64 D.grace)) := Lib.hid fun W hb => cmd_at (block_keep HC6.out hb)
              go_wp2_with fail
              refine wp_region_held_drew (S := fun W => W.cell? ⟨nm, k, none⟩ = some (.string S) ∧ W.cell? ⟨g, 0, none⟩ = some (.int .i64 D.kind) ∧ W.cell? ⟨g, 1, none⟩ = some (.int .i64 D.pid) ∧ W.cell? ⟨g, 2, none⟩ = some (.int .i64 D.seq) ∧ W.cell? ⟨g, 3, none⟩ = some (.slice A2 D.recs.length cap2) ∧ W.cell? ⟨g, 4, none⟩ = some (.string D.group) ∧ W.cell? ⟨g, 5, none⟩ = some (.int .i64 D.off) ∧ W.cell? ⟨g, 6, none⟩ = some (.int .i64 D.max) ∧ W.cell? ⟨g, 7, none⟩ = some (.int .i64 D.now) ∧ W.cell? ⟨g, 8, none⟩ = some (.int .u32 D.sum) ∧ W.cell? ⟨g, 9, none⟩ = some (.int .i64 D.seg) ∧ W.cell? ⟨g, 10, none⟩ = some (.int .i64 D.keep) ∧ W.cell? ⟨g, 11, none⟩ = some (.int .i64 D.age) ∧ W.cell? ⟨g, 12, none⟩ = some (.int .i64 D.grace)) (by kernel_rfl) ⟨hcn, hcd⟩ (fun hHeld => ?_)
              refine held_take 0 86 (v := ?v1) rfl rfl (by kernel_rfl) (by kernel_rfl) (by kernel_rfl) (fun _ _ _ h => h) hHeld (Or.inl ⟨by rfl, ?y1⟩) ?r1
              case y1 => intro w hSw; (try dsimp only at hSw); go_simp; (try with_reducible rfl)
              simp only [List.setIfInBounds_toArray, List.set_cons_zero, List.set_cons_succ]
              refine held_take 2 88 (v := ?v2) rfl rfl (by kernel_rfl) (by kernel_rfl) (by kernel_rfl) (fun _ _ _ h => h) hHeld (Or.inl ⟨by rfl, ?y2⟩) ?r2
              case y2 => intro w hSw; (try dsimp only at hSw); go_simp; (try with_reducible rfl)
              simp only [List.setIfInBounds_toArray, List.set_cons_zero, List.set_cons_succ]
              refine held_take 3 89 (v := ?v3) rfl rfl (by kernel_rfl) (by kernel_rfl) (by kernel_rfl) (fun _ _ _ h => h) hHeld (Or.inl ⟨by rfl, ?y3⟩) ?r3
              case y3 => intro w hSw; (try dsimp only at hSw); go_simp; (try with_reducible rfl)
              simp only [List.setIfInBounds_toArray, List.set_cons_zero, List.set_cons_succ]
              refine held_take 4 90 (v := ?v4) rfl rfl (by kernel_rfl) (by kernel_rfl) (by kernel_rfl) (fun _ _ _ h => h) hHeld (Or.inl ⟨by rfl, ?y4⟩) ?r4
              case y4 => intro w hSw; (try dsimp only at hSw); go_simp; (try with_reducible rfl)
              simp only [List.setIfInBounds_toArray, List.set_cons_zero, List.set_cons_succ]
              refine held_take 5 91 (v := ?v5) rfl rfl (by kernel_rfl) (by kernel_rfl) (by kernel_rfl) (fun _ _ _ h => h) hHeld (Or.inl ⟨by rfl, ?y5⟩) ?r5
              case y5 => intro w hSw; (try dsimp only at hSw); go_simp; (try with_reducible rfl)
              simp only [List.setIfInBounds_toArray, List.set_cons_zero, List.set_cons_succ]
              refine held_take 6 92 (v := ?v6) rfl rfl (by kernel_rfl) (by kernel_rfl) (by kernel_rfl) (fun _ _ _ h => h) hHeld (Or.inl ⟨by rfl, ?y6⟩) ?r6
              case y6 => intro w hSw; (try dsimp only at hSw); go_simp; (try with_reducible rfl)
              simp only [List.setIfInBounds_toArray, List.set_cons_zero, List.set_cons_succ]
              refine held_take 7 93 (v := ?v7) rfl rfl (by kernel_rfl) (by kernel_rfl) (by kernel_rfl) (fun _ _ _ h => h) hHeld (Or.inl ⟨by rfl, ?y7⟩) ?r7
              case y7 => intro w hSw; (try dsimp only at hSw); go_simp; (try with_reducible rfl)
              simp only [List.setIfInBounds_toArray, List.set_cons_zero, List.set_cons_succ]
              refine held_take 8 94 (v := .bool ((bitsC k).getD f 0 == 49)) rfl rfl (by kernel_rfl) (by kernel_rfl) (by kernel_rfl) (fun _ _ _ h => h) hHeld (Or.inl ⟨by rfl, ?yx⟩) ?rx
              case yx => intro w hSw; (try dsimp only at hSw); go_simp; exact HNG.out _
              simp only [List.setIfInBounds_toArray, List.set_cons_zero, List.set_cons_succ]
              refine wpAnyH_ready (rs := [1]) (by kernel_rfl) (by simp) ?_
              refine AllReadyH.cons (o := ⟨some 87, _, _, _, _, _⟩) rfl (fun K hK => ?_) AllReadyH.nil
              rw [if_pos (by rfl)]
              go_simp
              refine H6.out.mono ?_
              rintro e w7 ⟨rfl, hb7⟩
              have hb76 : Below w6.heap.size w6 w7 := ⟨hb7.os, hb7.tape, hb7.output, hb7.size, hb7.block⟩
              have HB7 := Lib.hid (HB6.out.trans (hb76.mono HB6.out.size))
              refine hK.out _ _ ⟨HSN.out _ hb76, HCS.out _ hb76⟩ (fun hHeld => ?_)
              clear hK K hb7 hb76
              (try simp only [Act.put, List.setIfInBounds_toArray, List.set_cons_zero, List.set_cons_succ])
              refine held_take 9 95 (v := ?v8) rfl rfl (by kernel_rfl) (by kernel_rfl) (by kernel_rfl) (fun _ _ _ h => h) hHeld (Or.inl ⟨by rfl, ?y8⟩) ?r8
              case y8 => intro w hSw; (try dsimp only at hSw); go_simp; (try with_reducible rfl)
              simp only [List.setIfInBounds_toArray, List.set_cons_zero, List.set_cons_succ]
              refine held_take 10 4 (v := ?v9) rfl rfl (by kernel_rfl) (by kernel_rfl) (by kernel_rfl) (fun _ _ _ h => h) hHeld (Or.inl ⟨by rfl, ?y9⟩) ?r9
              case y9 => intro w hSw; (try dsimp only at hSw); go_simp; (try with_reducible rfl)
              simp only [List.setIfInBounds_toArray, List.set_cons_zero, List.set_cons_succ]
              refine wpAnyH_done (by kernel_rfl) ?_ _
              go_wp2_with fail
              go_ret
              refine ⟨?_, HB7.out⟩
              simp

set_option maxRecDepth 100000 in
theorem lifted (os : Os) (started : os.Started) (H : Type) (enc : TypeId × Value → H) :
    ReturnsInHanded {} Tryd.checked os 6 .any (fun w args => (Rows.commandPlainSpec.pre enc Tryd.prog Tryd.f6 [] false w args ∧ laidMetH Tryd.prog laid1 w) ∧ sizedMet enc Tryd.prog Tryd.f6 (OpenSpec.ofChange Rows.commandPlainSpec) false w args) (Rows.commandPlainSpec.post enc Tryd.prog Tryd.f6 false true false false) := by
  refine returnsInHanded_of_change_and (C := Tryd.checked) (X := fun w _ => laidMetH Tryd.prog laid1 w) (fun _ _ _ hh h => h.of_heap hh) own started (by kernel_rfl) Tryd.func6
    (ChangeSpec.witness_shaped (enc := enc) (C := Tryd.checked) (os := os) (X := fun w _ => laidMetH Tryd.prog laid1 w) false (World.laidAll Tryd.prog os laid1) #[.int .i64 0, .int .i64 0] 8 (World.laidAll_os _ _ _) (World.shaped_of_ZipB (by kernel_rfl) (by kernel_rfl)) (by kernel_rfl) (by kernel_rfl) (by kernel_rfl) (door_met os _)) ?_
  intro W base args ds gs before hval0 hW _ _ hL _
  have hval : ∀ (j : Nat) t v, Tryd.f6.params[j]? = some t → args[j]? = some v → Value.okWide Tryd.prog W .any base t v := hval0
  have hW' := hW
  obtain ⟨p, q, hA0, hV, rfl, hfz, hnd⟩ := hW
  have hA : DataW.TrodAll enc Tryd.prog W 0 (fun _ => true) true Tryd.f6.params.toList args.toList ds p := hA0
  rw [Tryd.params6] at hA hval
  obtain ⟨v0, vs0, d0, ds0, p0, q0, hargs, rfl, rfl, h0, r0⟩ := trodAll_cons hA
  obtain ⟨v1, vs1, d1, ds1, p1, q1, rfl, rfl, rfl, h1, r1⟩ := trodAll_cons r0
  obtain ⟨rfl, rfl, rfl⟩ := trodAll_nil r1
  obtain rfl : args = #[v0, v1] := by cases args; simp_all
  obtain ⟨rfl, rfl⟩ := trodVars_none hV
  obtain ⟨a0, rfl, rfl, rfl, w0⟩ := open_int Tryd.underlying3 (hval 0 3 v0 rfl rfl) h0
  obtain ⟨a1, rfl, rfl, rfl, w1⟩ := open_int Tryd.underlying3 (hval 1 3 v1 rfl rfl) h1
  clear hA0 hval0
  refine (walk a0 a1 W (of_laid hL) w0 w1).mono fun e W' ⟨he, bel⟩ => ?_
  subst he
  exact ⟨_, rfl, _, _, _, [], _, [], hW', trodAll_mk1 (shut_bool Tryd.underlying4 _), (trodAll_cons_mk (shut_int Tryd.underlying3 w0) (trodAll_cons_mk (shut_int Tryd.underlying3 w1) trodAll_mk0)), rfl, bel.frame _, fun h => by cases h⟩

theorem over : Rows.commandPlainRow.holds Tryd.pinned (OpenSpec.ofChange Rows.commandPlainSpec) :=
  OpenClaim.holds_of_wide 6 Tryd.f6 rfl rfl rfl rfl rfl rfl rfl ⟨rfl, rfl, rfl, rfl, rfl⟩ rfl rfl rfl rfl rfl (by kernel_rfl) Tryd.func6 (by kernel_rfl)
    (of_decide_eq_true (by kernel_rfl)) (by unfold Func.isWrapper; first | (rw [if_pos (by decide +kernel)]; kernel_rfl) | (rw [if_neg (by decide +kernel)]; exact ⟨rfl, rfl⟩))
    (fun os started H enc _ => lifted os started H enc)

theorem proved : Rows.CommandPlainCardSaid :=
  Claim7.holds_tied_plain_at .later [] [.data, .pinned] true (true, "7f40e3b408ed15b1cef979e57bcf9a92b0890dc3aae873b6e77e4f9b7667b258") true
    over (fun _ h => by cases h) (by kernel_rfl) (fun _ h => by cases h) commandPlain_row_tie rfl ⟨rfl, rfl⟩ (by kernel_rfl) rfl
    (fun f fn hf hfn => by
      obtain rfl : f = 6 := Option.some.inj ((show Tryd.prog.funcNamed "cooperage/cooperagelaw10.CommandPlain" = some 6 by kernel_rfl).symm.trans hf) |>.symm
      obtain rfl : fn = Tryd.f6 := (Option.some.inj (Tryd.func6.symm.trans hfn)).symm
      exact ⟨by kernel_rfl, fun j t ht => by
        rw [Tryd.params6] at ht
        have hm : t ∈ [3, 3] := by simpa using Array.mem_of_getElem? ht
        have hall : ([3, 3].all fun u => !Tryd.prog.wantsStandIn u) = true := by kernel_rfl
        exact (show Tryd.prog.wantsStandIn t = false by simpa using List.all_eq_true.1 hall t hm)⟩)
    (by kernel_rfl)
#print axioms proved
end Go.Proofs.YtiglignfjegilaaDoor.commandPlain
