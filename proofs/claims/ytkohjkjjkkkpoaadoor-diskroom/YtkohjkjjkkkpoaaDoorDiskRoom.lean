/- Proved: for every number room and every list of lists of bytes, DiskRoom(room, l) returns true: on a disk of that room each append is answered OK just if what is used and its bytes are at most room, ErrFull if not, and as many bytes are used as were appended so (of rooms from 0 to 500, of at most 20 lists, up to the first one of more than 200 bytes; else it returns what the example says, or true). Conditions: none on the input; the two tables unicode/utf8.first and unicode/utf8.acceptRanges start as the program lays them (the card ties them; the first is pinned). -/
import Derived.Test.YtkohjkjjkkkpoaaDoorRows
import Derived.WalkKit
import Derived.ProofKit
import Derived.OpenShut
import Derived.ShutString
import Derived.ChangeOld
import Derived.Below
import Derived.LaidMore
import Derived.Stop.Joined
import Derived.SevenTiedAt
import Derived.Lay
import Derived.Deep.QuietTactic
import Derived.BigQuiet
import Derived.Test.YtkohjkjjkkkpoaaDoorCards
import Derived.Test.YtkohjkjjkkkpoaaDoorTie
import Derived.Test.YtkohjkjjkkkpoaaDoorCame
import Derived.Test.YtkohjkjjkkkpoaaDoorDRoom
namespace Go.Proofs.YtkohjkjjkkkpoaaDoor.diskRoom
open Go.ChangeShapes Go.WideShapes Go.ChangeAt Go.RowKit
open Go.ChangeMaps (open_string shut_string)
set_option linter.unusedVariables false

theorem own : ownKnob Tryd.prog.godebug = none := by kernel_rfl
theorem laidOut : laidOutB Tryd.prog = true := by kernel_rfl

def IsRow (k : IntKind) (w : World) (a : Option Addr) (len cap : Nat) (zs : List Int) : Prop :=
  (a = none ∧ len = 0 ∧ cap = 0 ∧ zs = []) ∨
  ∃ x, a = some x ∧ len ≤ cap ∧ cap ≤ maxLen ∧ zs.length = cap ∧ (∀ i, i < zs.length → w.cell? (x.add i) = some (.int k (zs.getD i 0))) ∧ ∀ n ∈ zs, (Lit.int k n).wf = true

set_option maxHeartbeats 3200000 in
set_option maxRecDepth 4000 in
theorem walk (a0 : Int) (a1 : Option Addr) (cap1 : Nat) (z1 : List (List Int)) (w : World) (hh : Tabs w) (w0 : (Lit.int .i64 a0).wf = true) (w1 : PiecesLie w a1 z1 ∧ z1.length ≤ cap1 ∧ cap1 ≤ maxLen ∧ ∀ q ∈ z1, IsBytes q) :
    Calls Tryd.prog 5 #[.int .i64 a0, .slice a1 z1.length cap1] w fun e w' => e = .returned (.bool true) ∧ Below w.heap.size w w' := by
  obtain ⟨hr0, hr1⟩ := bounds_i64 w0
  obtain ⟨hP, hcp, hcm, hby⟩ := w1
  clear w0
  by_cases hneg : a0 < 0
  · go_enter Tryd.func5, Tryd.ntmps5
    go_wp2_with fail
    refine (alive_any w hh).mono ?_
    rintro e w1 ⟨rfl, hbel⟩
    go_wp2
    go_ret
    exact ⟨rfl, hbel⟩
  · have hneg' : decide (a0 < 0) = false := decide_eq_false hneg
    by_cases hbig : 500 < a0
    · go_enter Tryd.func5, Tryd.ntmps5
      go_wp2_with fail
      refine (alive_any w hh).mono ?_
      rintro e w1 ⟨rfl, hbel⟩
      go_wp2
      go_ret
      exact ⟨rfl, hbel⟩
    · have hbig' : decide (500 < a0) = false := decide_eq_false hbig
      by_cases hmany : 20 < z1.length
      · have h1 : (20 : Int) < (z1.length : Int) := by omega
        go_enter Tryd.func5, Tryd.ntmps5
        go_wp2_with fail
        refine (alive_any w hh).mono ?_
        rintro e w1 ⟨rfl, hbel⟩
        go_wp2
        go_ret
        exact ⟨rfl, hbel⟩
      · have h1 : ¬ (20 : Int) < (z1.length : Int) := by omega
        have HP := Lib.hid hP
        have HBY := Lib.hid hby
        have HMN := Lib.hid (show z1.length ≤ 20 by omega)
        clear hP hby hcm hcp
        go_enter Tryd.func5, Tryd.ntmps5
        go_wp2_with fail
        refine (alive_any w hh).mono ?_
        rintro e w1 ⟨rfl, hbel⟩
        have HN1 := Lib.hid (dw_new w w1 hbel hh a0 (by omega) (by omega))
        clear hbel
        go_wp2_with fail
        clear h1 hneg' hbig'
        refine HN1.out.mono ?_
        rintro e w2 ⟨rfl, d2⟩
        obtain ⟨p, hp⟩ : ∃ p, w1.heap.size = p := ⟨_, rfl⟩
        rw [hp] at d2 ⊢
        have D2 := Lib.hid d2
        clear hp d2 HN1
        go_wp2_with fail
        go_loopw [7, 8] (fun uv iv wr => ∃ (i u : Nat) (l : List FileM), uv = .int .i64 (u : Int) ∧ iv = .int .i64 (i : Int) ∧ i ≤ z1.length ∧ DW w wr p a0 l ∧ usedM l = u ∧ l.length ≤ i ∧ (u : Int) ≤ a0)
          (fun _ iv _ => z1.length - (intOf iv).toNat)
        case atStart => exact ⟨0, 0, [], rfl, rfl, Nat.zero_le _, D2.out, rfl, Nat.le_refl _, by omega⟩
        case round =>
          obtain ⟨i, u, l, rfl, rfl, hi, hD, hul, hll, hua⟩ := hrel
          have HD := Lib.hid hD
          have hmn := HMN.out
          have HUL := Lib.hid hul
          have HLL := Lib.hid hll
          clear hD D2 hul hll
          by_cases hlt : i < z1.length
          · obtain ⟨b, off, hA, hbl, hcell⟩ := HP.out (by rintro e; rw [e] at hlt; simp at hlt)
            obtain ⟨Ai, ci, hce, hli, hci, hcm, hAi⟩ := hcell i hlt
            have hce2 := (HD.out.since.cell hbl).trans hce
            have hbyi := HBY.out _ (List.getElem_mem hlt)
            obtain ⟨q, hq⟩ : ∃ q, z1[i] = q := ⟨_, rfl⟩
            rw [hq] at hce2 hli hci hbyi
            have HLI := Lib.hid (hli.below HD.out.since)
            have HBI := Lib.hid hbyi
            have HAI := Lib.hid hAi
            subst hA
            have HCE := Lib.hid hce
            have HBL := Lib.hid hbl
            rw [hq] at HCE
            clear hcell hce hli hq hbyi hAi HP HBY hbl
            by_cases hlong : 200 < q.length
            · have h2 : (200 : Int) < (q.length : Int) := by omega
              go_wp2
              go_ret
              exact ⟨rfl, HD.out.since⟩
            · have h2 : ¬ (200 : Int) < (q.length : Int) := by omega
              obtain ⟨hvn, hsn⟩ := abc_valid i
              have hmod0 : (i : Int) % 3 = ((i % 3 : Nat) : Int) := by omega
              have hm3 : i % 3 < 3 := Nat.mod_lt _ (by omega)
              obtain ⟨k, hk⟩ : ∃ k, i % 3 = k := ⟨_, rfl⟩
              obtain ⟨nm, hnm⟩ : ∃ nm, (⟨#[97, 98, 99]⟩ : ByteArray).extract k (k + 1) = nm := ⟨_, rfl⟩
              rw [hk] at hvn hsn hmod0 hm3
              rw [hnm] at hvn hsn
              have HVN := Lib.hid hvn
              have HSN := Lib.hid (show nm.size ≤ 281474976710656 by omega)
              have htm : (i : Int).tmod 3 = (k : Int) := by rw [Int.tmod_eq_emod_of_nonneg (by omega)]; exact hmod0
              clear hvn hsn hk hmod0
              by_cases hfit : (u : Int) + (q.length : Int) ≤ a0
              · have UA := Lib.hid (used_append HD.out.rising (room := a0) (ys := q) HVN.out (by rw [HUL.out]; omega))
                have hfd : decide ((u : Int) + (q.length : Int) ≤ a0) = true := decide_eq_true hfit
                have HQL := Lib.hid (show q.length ≤ 200 by omega)
                have HUB := Lib.hid (show u + q.length ≤ 500 by omega)
                go_wp2_with fail
                refine (dw_append HD.out nm Ai q ci HSN.out HLI.out hci HAI.out HBI.out (by have := HQL.out; omega) (by have h3 := UA.out.2.2; have h4 := HLL.out; omega) (by rw [UA.out.1, HUL.out]; have h3 := HUB.out; omega)).mono ?_
                rintro e w3 ⟨rfl, d3⟩
                rw [UA.out.2.1]
                have hce3 := (d3.since.cell HBL.out).trans HCE.out
                have D3 := Lib.hid d3
                have HU3 := Lib.hid (dw_used d3)
                rw [UA.out.1, HUL.out] at HU3
                clear d3 hce2 HLI HBI HAI
                have HNUM := Lib.hid num_any
                have hqu : (((u + q.length : Nat) : Int) != (u : Int) + (q.length : Int)) = false := by simp
                have hqu2 : ((u : Int) + (q.length : Int) != (u : Int) + (q.length : Int)) = false := by simp
                have hwu : wrap64 ((u : Int) + (q.length : Int)) = (u : Int) + (q.length : Int) := by have := HUB.out; unfold wrap64; omega
                go_wp2_with (first | (go_at_call 20; refine (HNUM.out _ _).mono ?_; rintro e w' ⟨rfl, rfl⟩) | (go_at_call 21; refine HU3.out.mono ?_; rintro e w' ⟨rfl, rfl⟩))
                go_roundw
                case rel => exact ⟨i + 1, u + q.length, _, by go_num, by go_num, by omega, D3.out, by rw [UA.out.1, HUL.out], by have h3 := UA.out.2.2; have h4 := HLL.out; omega, by omega⟩
                case measure => simp [intOf]; omega
              · have FA := Lib.hid (full_append (l := l) (room := a0) (ys := q) HVN.out (by rw [HUL.out]; omega))
                have hfd : decide ((u : Int) + (q.length : Int) ≤ a0) = false := decide_eq_false hfit
                have HQL := Lib.hid (show q.length ≤ 200 by omega)
                have HUB := Lib.hid (show u ≤ 500 by omega)
                go_wp2_with fail
                refine (dw_append HD.out nm Ai q ci HSN.out HLI.out hci HAI.out HBI.out (by have := HQL.out; omega) (by rw [FA.out]; have h4 := HLL.out; dsimp only; omega) (by rw [FA.out, HUL.out]; have h3 := HUB.out; omega)).mono ?_
                rintro e w3 ⟨rfl, d3⟩
                rw [FA.out] at d3 ⊢
                have hce3 := (d3.since.cell HBL.out).trans HCE.out
                have D3 := Lib.hid d3
                have HU3 := Lib.hid (dw_used d3)
                rw [HUL.out] at HU3
                clear d3 hce2 HLI HBI HAI
                have HNUM := Lib.hid num_any
                have hqu : ((u : Int) != (u : Int)) = false := by simp
                have hqu2 : (u != u) = false := by simp
                have hwu : wrap64 ((u : Int) + (q.length : Int)) = (u : Int) + (q.length : Int) := by have := HUB.out; have := HQL.out; unfold wrap64; omega
                go_wp2_with (first | (go_at_call 20; refine (HNUM.out _ _).mono ?_; rintro e w' ⟨rfl, rfl⟩) | (go_at_call 21; refine HU3.out.mono ?_; rintro e w' ⟨rfl, rfl⟩))
                go_roundw
                case rel => exact ⟨i + 1, u, _, rfl, by go_num, by omega, D3.out, HUL.out, by have h4 := HLL.out; omega, by omega⟩
                case measure => simp [intOf]; omega
          · obtain rfl : i = z1.length := by omega
            go_wp2
            go_ret
            exact ⟨rfl, HD.out.since⟩

set_option maxRecDepth 100000 in
theorem lifted (os : Os) (started : os.Started) (H : Type) (enc : TypeId × Value → H) :
    ReturnsInHanded {} Tryd.checked os 5 .any (fun w args => (Rows.diskRoomSpec.pre enc Tryd.prog Tryd.f5 [] false w args ∧ laidMetH Tryd.prog laid1 w) ∧ sizedMet enc Tryd.prog Tryd.f5 (OpenSpec.ofChange Rows.diskRoomSpec) false w args) (Rows.diskRoomSpec.post enc Tryd.prog Tryd.f5 false true false false) := by
  refine returnsInHanded_of_change_and (C := Tryd.checked) (X := fun w _ => laidMetH Tryd.prog laid1 w) (fun _ _ _ hh h => h.of_heap hh) own started (by kernel_rfl) Tryd.func5
    (ChangeSpec.witness_shaped (enc := enc) (C := Tryd.checked) (os := os) (X := fun w _ => laidMetH Tryd.prog laid1 w) false (World.laidAll Tryd.prog os laid1) #[.int .i64 0, .slice none 0 0] 8 (World.laidAll_os _ _ _) (World.shaped_of_ZipB (by kernel_rfl) (by kernel_rfl)) (by kernel_rfl) (by kernel_rfl) (by kernel_rfl) (door_met os _)) ?_
  intro W base args ds gs before hval0 hW _ _ hL _
  have hval : ∀ (j : Nat) t v, Tryd.f5.params[j]? = some t → args[j]? = some v → Value.okWide Tryd.prog W .any base t v := hval0
  have hW' := hW
  obtain ⟨p, q, hA0, hV, rfl, hfz, hnd⟩ := hW
  have hA : DataW.TrodAll enc Tryd.prog W 0 (fun _ => true) true Tryd.f5.params.toList args.toList ds p := hA0
  rw [Tryd.params5] at hA hval
  obtain ⟨v0, vs0, d0, ds0, p0, q0, hargs, rfl, rfl, h0, r0⟩ := trodAll_cons hA
  obtain ⟨v1, vs1, d1, ds1, p1, q1, rfl, rfl, rfl, h1, r1⟩ := trodAll_cons r0
  obtain ⟨rfl, rfl, rfl⟩ := trodAll_nil r1
  obtain rfl : args = #[v0, v1] := by cases args; simp_all
  obtain ⟨rfl, rfl⟩ := trodVars_none hV
  obtain ⟨a0, rfl, rfl, rfl, w0⟩ := open_int Tryd.underlying3 (hval 0 3 v0 rfl rfl) h0
  have k1 := h1
  have lt1 : ∀ x ∈ p1, x.block < W.heap.size := by obtain ⟨m, hm⟩ := k1; exact DataW.trod_lt m _ _ _ hm
  obtain ⟨a1, cap1, z1, rfl, w1⟩ := pieces_came (hval 1 45 v1 rfl rfl) h1
  clear hA0 hval0
  refine (walk a0 a1 cap1 z1 W (of_laid hL) w0 w1).mono fun e W' ⟨he, bel⟩ => ?_
  subst he
  exact ⟨_, rfl, _, _, _, [], _, [], hW', trodAll_mk1 (shut_bool Tryd.underlying4 _), (trodAll_cons_mk (shut_int Tryd.underlying3 w0) (trodAll_cons_mk (Below.trod laidOut (by kernel_rfl) (of_decide_eq_true (by kernel_rfl)) k1 bel lt1) trodAll_mk0)), rfl, bel.frame _, fun h => by cases h⟩

theorem over : Rows.diskRoomRow.holds Tryd.pinned (OpenSpec.ofChange Rows.diskRoomSpec) :=
  OpenClaim.holds_of_wide 5 Tryd.f5 rfl rfl rfl rfl rfl rfl rfl ⟨rfl, rfl, rfl, rfl, rfl⟩ rfl rfl rfl rfl rfl (by kernel_rfl) Tryd.func5 (by kernel_rfl)
    (of_decide_eq_true (by kernel_rfl)) (by unfold Func.isWrapper; first | (rw [if_pos (by decide +kernel)]; kernel_rfl) | (rw [if_neg (by decide +kernel)]; exact ⟨rfl, rfl⟩))
    (fun os started H enc _ => lifted os started H enc)

theorem proved : Rows.DiskRoomCardSaid :=
  Claim7.holds_tied_plain_at .later [] [.data, .pinned] true (true, "9f9c79e53b6b38d304d4d1d850643538cce8ad8e1741b03c0c24b6d5f3b3483f") false
    over (fun _ h => by cases h) (by kernel_rfl) (fun _ h => by cases h) diskRoom_row_tie rfl ⟨rfl, rfl⟩ (by kernel_rfl) rfl
    (fun f fn hf hfn => by
      obtain rfl : f = 5 := Option.some.inj ((show Tryd.prog.funcNamed "cooperage/cooperagelaw6.DiskRoom" = some 5 by kernel_rfl).symm.trans hf) |>.symm
      obtain rfl : fn = Tryd.f5 := (Option.some.inj (Tryd.func5.symm.trans hfn)).symm
      exact ⟨by kernel_rfl, fun j t ht => by
        rw [Tryd.params5] at ht
        have hm : t ∈ [3, 45] := by simpa using Array.mem_of_getElem? ht
        have hall : ([3, 45].all fun u => !Tryd.prog.wantsStandIn u) = true := by kernel_rfl
        exact (show Tryd.prog.wantsStandIn t = false by simpa using List.all_eq_true.1 hall t hm)⟩)
    (by kernel_rfl)
#print axioms proved
end Go.Proofs.YtkohjkjjkkkpoaaDoor.diskRoom
