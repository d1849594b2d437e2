/- Proved: for every list l of calls, GroupsPlay(l) returns true. -/
import Derived.Test.YtmghlfhdjdlkbaaDoorRows
import Derived.WalkKit
import Derived.ProofKit
import Derived.OpenShut
import Derived.ShutString
import Derived.ChangeOld
import Derived.Below
import Derived.LaidMore
import Derived.Stop.Joined
import Derived.SevenTiedAt
import Derived.Lay
import Derived.Deep.DeepCutAuto
import Derived.Test.YtmghlfhdjdlkbaaDoorCards
import Derived.Test.YtmghlfhdjdlkbaaDoorTie
import Derived.Test.YtmghlfhdjdlkbaaDoorCame
import Derived.Test.YtmghlfhdjdlkbaaDoorGrpTrio
import Derived.Test.YtmghlfhdjdlkbaaDoorGrpCame
namespace Go.Proofs.YtmghlfhdjdlkbaaDoor.groupsPlay
open Go.ChangeShapes Go.WideShapes Go.ChangeAt Go.RowKit
open Go.ChangeMaps (open_string shut_string)
set_option linter.unusedVariables false

theorem own : ownKnob Tryd.prog.godebug = none := by kernel_rfl
theorem laidOut : laidOutB Tryd.prog = true := by kernel_rfl

def IsRow (k : IntKind) (w : World) (a : Option Addr) (len cap : Nat) (zs : List Int) : Prop :=
  (a = none ∧ len = 0 ∧ cap = 0 ∧ zs = []) ∨
  ∃ x, a = some x ∧ len ≤ cap ∧ cap ≤ maxLen ∧ zs.length = cap ∧ (∀ i, i < zs.length → w.cell? (x.add i) = some (.int k (zs.getD i 0))) ∧ ∀ n ∈ zs, (Lit.int k n).wf = true

set_option maxHeartbeats 6400000 in
theorem walk (a0 : Option Addr) (cap0 : Nat) (z0 : List PlaceM) (w : World) (hh : Tabs w) (w0 : RowsLie placeRep w (fun b => b < w.heap.size) a0 z0 cap0 ∧ ∀ m ∈ z0, m.wf) :
    Calls Tryd.prog 3 #[.slice a0 z0.length cap0] w fun e w' => e = .returned (.bool true) ∧ Below w.heap.size w w' := by
  obtain ⟨hlie, hwfl⟩ := w0
  have hlc := hlie.2.1
  have hlm := hlie.2.2
  have htz := gtab_zero
  have HAL := Lib.hid (alive12_any w hh)
  have HTT := Lib.hid hh
  have HNU := Lib.hid num12_any
  have HWL := Lib.hid hwfl
  have HLI := Lib.hid hlie
  unfold maxLen at hlm
  clear hwfl hlie hh
  by_cases h1 : (200 : Int) < (z0.length : Int)
  · have q1 : decide ((200 : Int) < (z0.length : Int)) = true := decide_eq_true h1
    have q2 : decide (200 < z0.length) = true := decide_eq_true (by omega)
    go_enter Tryd.func3, Tryd.ntmps3
    go_wp2_with fail
    refine HAL.out.mono ?_
    rintro e w2 ⟨rfl, hb2⟩
    go_wp2_with fail
    go_ret
    exact ⟨rfl, hb2⟩
  have q1 : decide ((200 : Int) < (z0.length : Int)) = false := decide_eq_false h1
  have q2 : decide (200 < z0.length) = false := decide_eq_false (by omega)
  have hl200 : z0.length ≤ 200 := by omega
  clear h1
  go_enter Tryd.func3, Tryd.ntmps3
  go_wp2_with fail
  refine HAL.out.mono ?_
  rintro e w2 ⟨rfl, hb2⟩
  have H0 := Lib.hid (TrioG.new3 w hb2)
  clear hb2 HAL q1 q2
  go_wp2_with fail
  generalize ((w2.alloc gtabO).alloc gtabO).alloc (.cells #[.slice none 0 0] 32) = w3 at *
  generalize w2.heap.size + 1 + 1 = q at *
  generalize w2.heap.size + 1 = o at *
  generalize w2.heap.size = g at *
  go_loopw [7] (fun iv wr => ∃ (i : Nat) (l lo : List PlaceM), iv = .int .i64 i ∧ i ≤ z0.length ∧ TrioG w wr g q l l (some (o, lo)) (fun _ => none)) (fun iv _ => z0.length - (intOf iv).toNat)
  case atStart => exact ⟨0, [], [], rfl, Nat.zero_le _, H0.out⟩
  case round =>
    obtain ⟨i, l, lo, rfl, hi, hs⟩ := hrel
    have HS := Lib.hid hs
    clear hs
    by_cases hlt : i < z0.length
    · have j1 : decide ((i : Int) < (z0.length : Int)) = true := decide_eq_true (by omega)
      have j2 : decide (i < z0.length) = true := decide_eq_true hlt
      obtain ⟨b, off, rfl, hb0, _, g0, g1⟩ := PlacesLie.at_ HLI.out hlt
      have hxw := HWL.out _ (List.getElem_mem hlt)
      obtain ⟨x, hx⟩ : ∃ x, z0[i] = x := ⟨_, rfl⟩
      rw [hx] at g0 g1 hxw
      obtain ⟨xn, xo⟩ := x
      have HX := Lib.hid hxw
      dsimp only at g0 g1
      have k0 := (HS.out.since.cell (p := ⟨b, off + i * 2, none⟩) hb0).trans g0
      have k1 := (HS.out.since.cell (p := ⟨b, off + i * 2 + 1, none⟩) hb0).trans g1
      have h5 := HS.out.alloc (.cells #[.string xn, .int .i64 xo] 33)
      have HX5 : Hid ((fun b => if b = wr.heap.size then some (Obj.cells #[.string xn, .int .i64 xo] 33) else none) wr.heap.size = some (Obj.cells #[.string xn, .int .i64 xo] 33)) := Lib.hid (if_pos rfl)
      have H5 := Lib.hid h5
      clear h5 hx hxw g0 g1 HS
      have HSM : Hid (∀ W : World, W.heap[wr.heap.size]? = some (Obj.cells #[.string xn, .int .i64 xo] 33) → (W.cell? ⟨wr.heap.size, 0, none⟩ = some (.string xn) ∧ W.cell? ⟨wr.heap.size, 1, none⟩ = some (.int .i64 xo))) := Lib.hid fun W hW => by
        refine ⟨?_, ?_⟩ <;> (unfold World.cell?; rw [hW]; rfl)
      generalize hX : (fun b => if b = wr.heap.size then some (Obj.cells #[.string xn, .int .i64 xo] 33) else none) = X at *
      obtain ⟨W5, hW5⟩ : ∃ W5, wr.alloc (.cells #[.string xn, .int .i64 xo] 33) = W5 := ⟨_, rfl⟩
      rw [hW5] at H5
      obtain ⟨m0, m1⟩ := HSM.out _ (H5.out.held HX5.out)
      clear hX
      by_cases h200 : (200 : Int) < (xn.size : Int)
      · have s1 : decide ((200 : Int) < (xn.size : Int)) = true := decide_eq_true h200
        have s2 : decide (200 < xn.size) = true := decide_eq_true (by omega)
        clear h200
        go_wp2_with fail
        go_ret
        exact ⟨rfl, H5.out.since⟩
      · have s1 : decide ((200 : Int) < (xn.size : Int)) = false := decide_eq_false h200
        have s2 : decide (200 < xn.size) = false := decide_eq_false (by omega)
        have H1 := Lib.hid (TrioG.oset HTT.out H5.out ⟨⟨#[111]⟩, (i : Int)⟩ ⟨(show (⟨#[111]⟩ : ByteArray).size ≤ 9223372036854775807 by decide +kernel), by dsimp only; omega, by dsimp only; omega⟩)
        dsimp only at H1
        have hsz : xn.size ≤ maxLen := HX.out.1
        have HSZ := Lib.hid hsz
        clear h200 hsz
        go_upto_region 13 with fail
        clear hW5
        generalize wr.heap.size = xb at *
        go_wp2_with fail
        refine H1.out.mono ?_
        rintro e w4 ⟨⟨n4, rfl⟩, h4⟩
        generalize (setN lo ⟨⟨#[111]⟩, (i : Int)⟩).1 = lo2 at h4
        have H4 := Lib.hid h4
        have hc4 := HSM.out _ (h4.held HX5.out)
        clear h4 H1 m0 m1
        obtain ⟨l2, er, hset⟩ : ∃ l2 er, setN l ⟨xn, xo⟩ = (l2, er) := ⟨_, _, rfl⟩
        obtain ⟨a1, a2, hask⟩ : ∃ a1 a2, getN l2 xn = (a1, a2) := ⟨_, _, rfl⟩
        have K3 := Lib.hid (fun (W : World) (h : TrioG w W g q l l (some (o, lo2)) X) => TrioG.pset HTT.out h ⟨xn, xo⟩ HX.out)
        have K4 := Lib.hid (fun (W : World) (h : TrioG w W g q l2 l (some (o, lo2)) X) => h.rset ⟨xn, xo⟩ HX.out)
        have K1 := Lib.hid (fun (W : World) (h : TrioG w W g q l2 l2 (some (o, lo2)) X) => h.pget xn HSZ.out)
        have K2 := Lib.hid (fun (W : World) (h : TrioG w W g q l2 l2 (some (o, lo2)) X) => h.rget xn)
        have K5 := Lib.hid (fun (W : World) (h : TrioG w W g q l2 l2 (some (o, lo2)) X) => h.prows)
        rw [hset] at K3 K4
        rw [hask] at K1 K2
        dsimp only at K1 K2 K3 K4
        have n1 : (a1 != a1) = false := by simp
        have n2 : (a2 != a2) = false := by simp
        have n3 : (er != er) = false := by simp
        clear hask hset
        go_wp2_with fail
        refine wp_region_held_drew (S := fun W => W.cell? ⟨xb, 0, none⟩ = some (.string xn) ∧ W.cell? ⟨xb, 1, none⟩ = some (.int .i64 xo)) (by kernel_rfl) hc4 (fun hHeld => ?_)
        refine held_take 0 40 (v := ?v1) rfl rfl (by kernel_rfl) (by kernel_rfl) (by kernel_rfl) (fun _ _ _ h => h) hHeld (Or.inl ⟨by rfl, ?y1⟩) ?r1
        case y1 => intro W hSw; (try dsimp only at hSw); go_simp; (try with_reducible rfl)
        simp only [List.setIfInBounds_toArray, List.set_cons_zero, List.set_cons_succ]
        refine held_take 1 41 (v := ?v2) rfl rfl (by kernel_rfl) (by kernel_rfl) (by kernel_rfl) (fun _ _ _ h => h) hHeld (Or.inl ⟨by rfl, ?y2⟩) ?r2
        case y2 => intro W hSw; (try dsimp only at hSw); go_simp; (try with_reducible rfl)
        simp only [List.setIfInBounds_toArray, List.set_cons_zero, List.set_cons_succ]
        refine held_take 2 42 (v := ?v3) rfl rfl (by kernel_rfl) (by kernel_rfl) (by kernel_rfl) (fun _ _ _ h => h) hHeld (Or.inl ⟨by rfl, ?y3⟩) ?r3
        case y3 => intro W hSw; (try dsimp only at hSw); go_simp; (try with_reducible rfl)
        simp only [List.setIfInBounds_toArray, List.set_cons_zero, List.set_cons_succ]
        refine held_take 3 43 (v := ?v4) rfl rfl (by kernel_rfl) (by kernel_rfl) (by kernel_rfl) (fun _ _ _ h => h) hHeld (Or.inl ⟨by rfl, ?y4⟩) ?r4
        case y4 => intro W hSw; (try dsimp only at hSw); go_simp; (try with_reducible rfl)
        simp only [List.setIfInBounds_toArray, List.set_cons_zero, List.set_cons_succ]
        refine held_take 6 46 (v := ?v5) rfl rfl (by kernel_rfl) (by kernel_rfl) (by kernel_rfl) (fun _ _ _ h => h) hHeld (Or.inl ⟨by rfl, ?y5⟩) ?r5
        case y5 => intro W hSw; (try dsimp only at hSw); go_simp; (try with_reducible rfl)
        simp only [List.setIfInBounds_toArray, List.set_cons_zero, List.set_cons_succ]
        refine held_take 7 47 (v := ?v6) rfl rfl (by kernel_rfl) (by kernel_rfl) (by kernel_rfl) (fun _ _ _ h => h) hHeld (Or.inl ⟨by rfl, ?y6⟩) ?r6
        case y6 => intro W hSw; (try dsimp only at hSw); go_simp; (try with_reducible rfl)
        simp only [List.setIfInBounds_toArray, List.set_cons_zero, List.set_cons_succ]
        refine held_take 8 48 (v := ?v7) rfl rfl (by kernel_rfl) (by kernel_rfl) (by kernel_rfl) (fun _ _ _ h => h) hHeld (Or.inl ⟨by rfl, ?y7⟩) ?r7
        case y7 => intro W hSw; (try dsimp only at hSw); go_simp; (try with_reducible rfl)
        simp only [List.setIfInBounds_toArray, List.set_cons_zero, List.set_cons_succ]
        refine held_take 9 49 (v := ?v8) rfl rfl (by kernel_rfl) (by kernel_rfl) (by kernel_rfl) (fun _ _ _ h => h) hHeld (Or.inl ⟨by rfl, ?y8⟩) ?r8
        case y8 => intro W hSw; (try dsimp only at hSw); go_simp; (try with_reducible rfl)
        simp only [List.setIfInBounds_toArray, List.set_cons_zero, List.set_cons_succ]
        refine held_take 10 50 (v := ?v9) rfl rfl (by kernel_rfl) (by kernel_rfl) (by kernel_rfl) (fun _ _ _ h => h) hHeld (Or.inl ⟨by rfl, ?y9⟩) ?r9
        case y9 => intro W hSw; (try dsimp only at hSw); go_simp; (try with_reducible rfl)
        simp only [List.setIfInBounds_toArray, List.set_cons_zero, List.set_cons_succ]
        refine wpAnyH_ready (rs := [4]) (by kernel_rfl) (by simp) ?_
        refine AllReadyH.cons rfl (fun K hK => ?_) AllReadyH.nil
        go_simp
        refine (K3.out w4.drew (H4.out.below (Below.refl _ w4).drew)).mono ?_
        rintro e w8 ⟨rfl, h8⟩
        have H8 := Lib.hid h8
        have hc8 := HSM.out _ (h8.held HX5.out)
        clear h8
        refine hK.out _ _ hc8 (fun hHeld => ?_)
        clear hK K
        (try simp only [Act.put, List.setIfInBounds_toArray, List.set_cons_zero, List.set_cons_succ])
        refine wpAnyH_ready (rs := [5]) (by kernel_rfl) (by simp) ?_
        refine AllReadyH.cons rfl (fun K hK => ?_) AllReadyH.nil
        go_simp
        refine (HNU.out _ _).mono ?_
        rintro e w9 ⟨rfl, rfl⟩
        refine hK.out _ _ hHeld (fun hHeld => ?_)
        clear hK K
        (try simp only [Act.put, List.setIfInBounds_toArray, List.set_cons_zero, List.set_cons_succ])
        refine wpAnyH_ready (rs := [11]) (by kernel_rfl) (by simp) ?_
        refine AllReadyH.cons rfl (fun K hK => ?_) AllReadyH.nil
        go_simp
        refine (K4.out _ H8.out).mono ?_
        rintro e w10 ⟨rfl, h10⟩
        have H10 := Lib.hid h10
        have hc10 := HSM.out _ (h10.held HX5.out)
        clear h10
        refine hK.out _ _ hc10 (fun hHeld => ?_)
        clear hK K
        (try simp only [Act.put, List.setIfInBounds_toArray, List.set_cons_zero, List.set_cons_succ])
        refine held_take 12 52 (v := ?v10) rfl rfl (by kernel_rfl) (by kernel_rfl) (by kernel_rfl) (fun _ _ _ h => h) hHeld (Or.inl ⟨by rfl, ?y10⟩) ?r10
        case y10 => intro W hSw; (try dsimp only at hSw); go_simp; (try with_reducible rfl)
        simp only [List.setIfInBounds_toArray, List.set_cons_zero, List.set_cons_succ]
        refine wpAnyH_done (by kernel_rfl) ?_ _
        obtain ⟨y0, y1⟩ := hHeld
        go_wp2_with fail
        refine (K1.out _ H10.out).mono ?_
        rintro e w11 ⟨rfl, h11⟩
        have H11 := Lib.hid h11
        have hc11 := HSM.out _ (h11.held HX5.out)
        clear h11 y0 y1
        obtain ⟨y0, y1⟩ := hc11
        go_wp2_with fail
        refine (K2.out _ H11.out).mono ?_
        rintro e w12 ⟨rfl, h12⟩
        have H12 := Lib.hid h12
        clear h12 y0 y1
        obtain ⟨T5, A5, cap5, hc5, hl5⟩ := H12.out.rl
        go_wp2_with fail
        refine wp_region_held_drew (S := fun W => W.cell? ⟨q, 0, none⟩ = some (.slice A5 l2.length cap5)) (by kernel_rfl) hc5 (fun hHeld => ?_)
        refine held_take 0 66 (v := ?v11) rfl rfl (by kernel_rfl) (by kernel_rfl) (by kernel_rfl) (fun _ _ _ h => h) hHeld (Or.inl ⟨by rfl, ?y11⟩) ?r11
        case y11 => intro W hSw; (try dsimp only at hSw); go_simp; (try with_reducible rfl)
        simp only [List.setIfInBounds_toArray, List.set_cons_zero, List.set_cons_succ]
        refine held_take 1 67 (v := ?v12) rfl rfl (by kernel_rfl) (by kernel_rfl) (by kernel_rfl) (fun _ _ _ h => h) hHeld (Or.inl ⟨by rfl, ?y12⟩) ?r12
        case y12 => intro W hSw; (try dsimp only at hSw); go_simp; (try with_reducible rfl)
        simp only [List.setIfInBounds_toArray, List.set_cons_zero, List.set_cons_succ]
        refine held_take 2 68 (v := ?v13) rfl rfl (by kernel_rfl) (by kernel_rfl) (by kernel_rfl) (fun _ _ _ h => h) hHeld (Or.inl ⟨by rfl, ?y13⟩) ?r13
        case y13 => intro W hSw; (try dsimp only at hSw); go_simp; (try with_reducible rfl)
        simp only [List.setIfInBounds_toArray, List.set_cons_zero, List.set_cons_succ]
        refine held_take 3 69 (v := ?v14) rfl rfl (by kernel_rfl) (by kernel_rfl) (by kernel_rfl) (fun _ _ _ h => h) hHeld (Or.inl ⟨by rfl, ?y14⟩) ?r14
        case y14 => intro W hSw; (try dsimp only at hSw); go_simp; (try with_reducible rfl)
        simp only [List.setIfInBounds_toArray, List.set_cons_zero, List.set_cons_succ]
        refine held_take 4 70 (v := ?v15) rfl rfl (by kernel_rfl) (by kernel_rfl) (by kernel_rfl) (fun _ _ _ h => h) hHeld (Or.inl ⟨by rfl, ?y15⟩) ?r15
        case y15 => intro W hSw; (try dsimp only at hSw); go_simp; (try with_reducible rfl)
        simp only [List.setIfInBounds_toArray, List.set_cons_zero, List.set_cons_succ]
        refine held_take 5 71 (v := ?v16) rfl rfl (by kernel_rfl) (by kernel_rfl) (by kernel_rfl) (fun _ _ _ h => h) hHeld (Or.inl ⟨by rfl, ?y16⟩) ?r16
        case y16 => intro W hSw; (try dsimp only at hSw); go_simp; (try with_reducible rfl)
        simp only [List.setIfInBounds_toArray, List.set_cons_zero, List.set_cons_succ]
        refine held_take 6 72 (v := ?v17) rfl rfl (by kernel_rfl) (by kernel_rfl) (by kernel_rfl) (fun _ _ _ h => h) hHeld (Or.inl ⟨by rfl, ?y17⟩) ?r17
        case y17 => intro W hSw; (try dsimp only at hSw); go_simp; (try with_reducible rfl)
        simp only [List.setIfInBounds_toArray, List.set_cons_zero, List.set_cons_succ]
        refine held_take 7 73 (v := ?v18) rfl rfl (by kernel_rfl) (by kernel_rfl) (by kernel_rfl) (fun _ _ _ h => h) hHeld (Or.inl ⟨by rfl, ?y18⟩) ?r18
        case y18 => intro W hSw; (try dsimp only at hSw); go_simp; (try with_reducible rfl)
        simp only [List.setIfInBounds_toArray, List.set_cons_zero, List.set_cons_succ]
        refine held_take 8 74 (v := ?v19) rfl rfl (by kernel_rfl) (by kernel_rfl) (by kernel_rfl) (fun _ _ _ h => h) hHeld (Or.inl ⟨by rfl, ?y19⟩) ?r19
        case y19 => intro W hSw; (try dsimp only at hSw); go_simp; (try with_reducible rfl)
        simp only [List.setIfInBounds_toArray, List.set_cons_zero, List.set_cons_succ]
        refine held_take 10 76 (v := ?v20) rfl rfl (by kernel_rfl) (by kernel_rfl) (by kernel_rfl) (fun _ _ _ h => h) hHeld (Or.inl ⟨by rfl, ?y20⟩) ?r20
        case y20 => intro W hSw; (try dsimp only at hSw); go_simp; (try with_reducible rfl)
        simp only [List.setIfInBounds_toArray, List.set_cons_zero, List.set_cons_succ]
        refine held_take 11 77 (v := ?v21) rfl rfl (by kernel_rfl) (by kernel_rfl) (by kernel_rfl) (fun _ _ _ h => h) hHeld (Or.inl ⟨by rfl, ?y21⟩) ?r21
        case y21 => intro W hSw; (try dsimp only at hSw); go_simp; (try with_reducible rfl)
        simp only [List.setIfInBounds_toArray, List.set_cons_zero, List.set_cons_succ]
        refine held_take 12 78 (v := ?v22) rfl rfl (by kernel_rfl) (by kernel_rfl) (by kernel_rfl) (fun _ _ _ h => h) hHeld (Or.inl ⟨by rfl, ?y22⟩) ?r22
        case y22 => intro W hSw; (try dsimp only at hSw); go_simp; (try with_reducible rfl)
        simp only [List.setIfInBounds_toArray, List.set_cons_zero, List.set_cons_succ]
        refine held_take 13 79 (v := ?v23) rfl rfl (by kernel_rfl) (by kernel_rfl) (by kernel_rfl) (fun _ _ _ h => h) hHeld (Or.inl ⟨by rfl, ?y23⟩) ?r23
        case y23 => intro W hSw; (try dsimp only at hSw); go_simp; (try with_reducible rfl)
        simp only [List.setIfInBounds_toArray, List.set_cons_zero, List.set_cons_succ]
        refine wpAnyH_ready (rs := [9]) (by kernel_rfl) (by simp) ?_
        refine AllReadyH.cons rfl (fun K hK => ?_) AllReadyH.nil
        go_simp
        refine (K5.out w12.drew (H12.out.below (Below.refl _ w12).drew)).mono ?_
        rintro e w13 ⟨v6, rfl, hown6, hb6, h6⟩
        have hc6 : w13.cell? ⟨q, 0, none⟩ = some (.slice A5 l2.length cap5) := (hb6.cell (p := ⟨q, 0, none⟩) (cell_block_lt hc5)).trans hc5
        obtain ⟨T6, A6, cap6, hd6, hl6⟩ := h6.rl
        rw [hc6] at hd6
        injection hd6 with hd6
        injection hd6 with e1 _ e3
        subst e1 e3
        obtain ⟨A7, c7, rfl, hl7, _⟩ := OwnS.parts hown6
        have HSR := Lib.hid (samerowsg_any w13 l2 l2 _ T6 A7 A5 c7 cap5 hl7 hl6)
        have H13 := Lib.hid h6
        clear hown6 hb6 h6 hl7 hl6
        refine hK.out _ _ hc6 (fun hHeld => ?_)
        clear hK K
        (try simp only [Act.put, List.setIfInBounds_toArray, List.set_cons_zero, List.set_cons_succ])
        refine wpAnyH_ready (rs := [14]) (by kernel_rfl) (by simp) ?_
        refine AllReadyH.cons rfl (fun K hK => ?_) AllReadyH.nil
        go_simp
        refine (HSR.out).mono ?_
        rintro e w14 ⟨d7, m7, rfl, hd7, rfl⟩
        obtain rfl : d7 = true := hd7.2 rfl
        refine hK.out _ _ hHeld (fun hHeld => ?_)
        clear hK K
        (try simp only [Act.put, List.setIfInBounds_toArray, List.set_cons_zero, List.set_cons_succ])
        refine held_take 15 81 (v := ?v24) rfl rfl (by kernel_rfl) (by kernel_rfl) (by kernel_rfl) (fun _ _ _ h => h) hHeld (Or.inl ⟨by rfl, ?y24⟩) ?r24
        case y24 => intro W hSw; (try dsimp only at hSw); go_simp; (try with_reducible rfl)
        simp only [List.setIfInBounds_toArray, List.set_cons_zero, List.set_cons_succ]
        refine held_take 16 82 (v := ?v25) rfl rfl (by kernel_rfl) (by kernel_rfl) (by kernel_rfl) (fun _ _ _ h => h) hHeld (Or.inl ⟨by rfl, ?y25⟩) ?r25
        case y25 => intro W hSw; (try dsimp only at hSw); go_simp; (try with_reducible rfl)
        simp only [List.setIfInBounds_toArray, List.set_cons_zero, List.set_cons_succ]
        refine wpAnyH_done (by kernel_rfl) ?_ _
        have H14 := Lib.hid (H13.out.below (below_drewN (Below.refl _ w13) m7))
        have HF : Hid (TrioG w (w13.drewN m7) g q l2 l2 (some (o, lo2)) (fun _ => none)) := Lib.hid (by
          obtain ⟨f1, S, T, O, f2, f3, f4, f5, _⟩ := H14.out
          exact ⟨f1, S, T, O, f2, f3, f4, f5, fun _ _ e => by cases e⟩)
        clear hHeld
        go_wp2_with fail
        go_roundw
        case rel => exact ⟨i + 1, l2, lo2, by go_num, hlt, HF.out⟩
        case measure => simp [intOf]; omega
    · obtain rfl : i = z0.length := by omega
      have HE := Lib.hid HS.out.since
      clear HS hlt
      go_wp2_with fail
      go_ret
      exact ⟨rfl, HE.out⟩

set_option maxRecDepth 100000 in
theorem lifted (os : Os) (started : os.Started) (H : Type) (enc : TypeId × Value → H) :
    ReturnsInHanded {} Tryd.checked os 3 .any (fun w args => (Rows.groupsPlaySpec.pre enc Tryd.prog Tryd.f3 [] false w args ∧ laidMetH Tryd.prog laid1 w) ∧ sizedMet enc Tryd.prog Tryd.f3 (OpenSpec.ofChange Rows.groupsPlaySpec) false w args) (Rows.groupsPlaySpec.post enc Tryd.prog Tryd.f3 false true false false) := by
  refine returnsInHanded_of_change_and (C := Tryd.checked) (X := fun w _ => laidMetH Tryd.prog laid1 w) (fun _ _ _ hh h => h.of_heap hh) own started (by kernel_rfl) Tryd.func3
    (ChangeSpec.witness_shaped (enc := enc) (C := Tryd.checked) (os := os) (X := fun w _ => laidMetH Tryd.prog laid1 w) false (World.laidAll Tryd.prog os laid1) #[.slice none 0 0] 8 (World.laidAll_os _ _ _) (World.shaped_of_ZipB (by kernel_rfl) (by kernel_rfl)) (by kernel_rfl) (by kernel_rfl) (by kernel_rfl) (door_met os _)) ?_
  intro W base args ds gs before hval0 hW _ _ hL _
  have hval : ∀ (j : Nat) t v, Tryd.f3.params[j]? = some t → args[j]? = some v → Value.okWide Tryd.prog W .any base t v := hval0
  have hW' := hW
  obtain ⟨p, q, hA0, hV, rfl, hfz, hnd⟩ := hW
  have hA : DataW.TrodAll enc Tryd.prog W 0 (fun _ => true) true Tryd.f3.params.toList args.toList ds p := hA0
  rw [Tryd.params3] at hA hval
  obtain ⟨v0, vs0, d0, ds0, p0, q0, hargs, rfl, rfl, h0, r0⟩ := trodAll_cons hA
  obtain ⟨rfl, rfl, rfl⟩ := trodAll_nil r0
  obtain rfl : args = #[v0] := by cases args; simp_all
  obtain ⟨rfl, rfl⟩ := trodVars_none hV
  have k0 := h0
  have lt0 : ∀ x ∈ p0, x.block < W.heap.size := by obtain ⟨m, hm⟩ := k0; exact DataW.trod_lt m _ _ _ hm
  obtain ⟨a0, cap0, z0, rfl, w0⟩ := gacts_came (hval 0 22 v0 rfl rfl) h0
  clear hA0 hval0
  refine (walk a0 cap0 z0 W (of_laid hL) w0).mono fun e W' ⟨he, bel⟩ => ?_
  subst he
  exact ⟨_, rfl, _, _, _, [], _, [], hW', trodAll_mk1 (shut_bool Tryd.underlying4 _), (trodAll_cons_mk (Below.trod laidOut (by kernel_rfl) (of_decide_eq_true (by kernel_rfl)) k0 bel lt0) trodAll_mk0), rfl, bel.frame _, fun h => by cases h⟩

theorem over : Rows.groupsPlayRow.holds Tryd.pinned (OpenSpec.ofChange Rows.groupsPlaySpec) :=
  OpenClaim.holds_of_wide 3 Tryd.f3 rfl rfl rfl rfl rfl rfl rfl ⟨rfl, rfl, rfl, rfl, rfl⟩ rfl rfl rfl rfl rfl (by kernel_rfl) Tryd.func3 (by kernel_rfl)
    (of_decide_eq_true (by kernel_rfl)) (by unfold Func.isWrapper; first | (rw [if_pos (by decide +kernel)]; kernel_rfl) | (rw [if_neg (by decide +kernel)]; exact ⟨rfl, rfl⟩))
    (fun os started H enc _ => lifted os started H enc)

theorem proved : Rows.GroupsPlayCardSaid :=
  Claim7.holds_tied_plain_at .later [] [.data, .pinned] true (true, "71f9d8eb906c974c628d97fe7f52072530c4f27e8705de1c19969d55f452aa95") false
    over (fun _ h => by cases h) (by kernel_rfl) (fun _ h => by cases h) groupsPlay_row_tie rfl ⟨rfl, rfl⟩ (by kernel_rfl) rfl
    (fun f fn hf hfn => by
      obtain rfl : f = 3 := Option.some.inj ((show Tryd.prog.funcNamed "cooperage/cooperagelaw12.GroupsPlay" = some 3 by kernel_rfl).symm.trans hf) |>.symm
      obtain rfl : fn = Tryd.f3 := (Option.some.inj (Tryd.func3.symm.trans hfn)).symm
      exact ⟨by kernel_rfl, fun j t ht => by
        rw [Tryd.params3] at ht
        have hm : t ∈ [22] := by simpa using Array.mem_of_getElem? ht
        have hall : ([22].all fun u => !Tryd.prog.wantsStandIn u) = true := by kernel_rfl
        exact (show Tryd.prog.wantsStandIn t = false by simpa using List.all_eq_true.1 hall t hm)⟩)
    (by kernel_rfl)
#print axioms proved
end Go.Proofs.YtmghlfhdjdlkbaaDoor.groupsPlay
