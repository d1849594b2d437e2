/- Proved: for every list l of threes of numbers, DedupPlays(l) returns true. -/
import Derived.Test.YtgjgbelloobdfaaRows
import Derived.WalkKit
import Derived.ProofKit
import Derived.OpenShut
import Derived.ShutString
import Derived.ChangeOld
import Derived.Below
import Derived.Test.YtgjgbelloobdfaaCame
import Derived.Test.YtgjgbelloobdfaaDedTrio
import Derived.Test.YtgjgbelloobdfaaDedCame
namespace Go.Proofs.Ytgjgbelloobdfaa.dedupPlays
open Go.ChangeShapes Go.WideShapes Go.ChangeAt Go.RowKit
open Go.ChangeMaps (open_string shut_string)
set_option linter.unusedVariables false

theorem own : ownKnob Try.prog.godebug = none := by kernel_rfl
theorem laidOut : laidOutB Try.prog = true := by kernel_rfl

def IsRow (k : IntKind) (w : World) (a : Option Addr) (len cap : Nat) (zs : List Int) : Prop :=
  (a = none ∧ len = 0 ∧ cap = 0 ∧ zs = []) ∨
  ∃ x, a = some x ∧ len ≤ cap ∧ cap ≤ maxLen ∧ zs.length = cap ∧ (∀ i, i < zs.length → w.cell? (x.add i) = some (.int k (zs.getD i 0))) ∧ ∀ n ∈ zs, (Lit.int k n).wf = true

set_option maxHeartbeats 6400000 in
theorem walk (a0 : Option Addr) (cap0 : Nat) (z0 : List PidM) (w : World) (w0 : RowsLie pidRep w (fun b => b < w.heap.size) a0 z0 cap0 ∧ ∀ m ∈ z0, m.wf) :
    Calls Try.prog 3 #[.slice a0 z0.length cap0] w fun e w' => e = .returned (.bool true) ∧ Below w.heap.size w w' := by
  obtain ⟨hlie, hwfl⟩ := w0
  have hlc := hlie.2.1
  have hlm := hlie.2.2
  have htz := tab_zero
  have HAL := Lib.hid (alive11_any w)
  have HNU := Lib.hid num11_any
  have HWL := Lib.hid hwfl
  have HLI := Lib.hid hlie
  unfold maxLen at hlm
  clear hwfl hlie
  by_cases h1 : (200 : Int) < (z0.length : Int)
  · have q1 : decide ((200 : Int) < (z0.length : Int)) = true := decide_eq_true h1
    have q2 : decide (200 < z0.length) = true := decide_eq_true (by omega)
    go_enter Try.func3, Try.ntmps3
    go_wp2_with fail
    refine HAL.out.mono ?_
    rintro e w2 ⟨rfl, hb2⟩
    go_wp2_with fail
    go_ret
    exact ⟨rfl, hb2⟩
  have q1 : decide ((200 : Int) < (z0.length : Int)) = false := decide_eq_false h1
  have q2 : decide (200 < z0.length) = false := decide_eq_false (by omega)
  have hl200 : z0.length ≤ 200 := by omega
  clear h1
  go_enter Try.func3, Try.ntmps3
  go_wp2_with fail
  refine HAL.out.mono ?_
  rintro e w2 ⟨rfl, hb2⟩
  have H0 := Lib.hid (Trio.new3 w hb2)
  clear hb2 HAL q1 q2
  go_wp2_with fail
  generalize ((w2.alloc tabO).alloc tabO).alloc (.cells #[.slice none 0 0] 32) = w3 at *
  generalize w2.heap.size + 1 + 1 = q at *
  generalize w2.heap.size + 1 = o at *
  generalize w2.heap.size = g at *
  go_loopw [7] (fun iv wr => ∃ (i : Nat) (l lo : List PidM), iv = .int .i64 i ∧ i ≤ z0.length ∧ Trio w wr g q l l (some (o, lo)) (fun _ => none)) (fun iv _ => z0.length - (intOf iv).toNat)
  case atStart => exact ⟨0, [], [], rfl, Nat.zero_le _, H0.out⟩
  case round =>
    obtain ⟨i, l, lo, rfl, hi, hs⟩ := hrel
    have HS := Lib.hid hs
    clear hs
    by_cases hlt : i < z0.length
    · have j1 : decide ((i : Int) < (z0.length : Int)) = true := decide_eq_true (by omega)
      have j2 : decide (i < z0.length) = true := decide_eq_true hlt
      obtain ⟨b, off, rfl, hb0, _, g0, g1, g2⟩ := PidsLie.at_ HLI.out hlt
      have hxw := HWL.out _ (List.getElem_mem hlt)
      obtain ⟨x, hx⟩ : ∃ x, z0[i] = x := ⟨_, rfl⟩
      rw [hx] at g0 g1 g2 hxw
      obtain ⟨xp, xs, xo⟩ := x
      have HX := Lib.hid hxw
      dsimp only at g0 g1 g2
      have HCW := Lib.hid (fun (W : World) (hb : Below w.heap.size w W) => And.intro ((hb.cell (p := ⟨b, off + i * 3, none⟩) hb0).trans g0) (And.intro ((hb.cell (p := ⟨b, off + i * 3 + 1, none⟩) hb0).trans g1) ((hb.cell (p := ⟨b, off + i * 3 + 2, none⟩) hb0).trans g2)))
      have H1 := Lib.hid (HS.out.oset ⟨(i : Int), (i : Int), (i : Int)⟩ ⟨⟨by dsimp only; omega, by dsimp only; omega⟩, ⟨by dsimp only; omega, by dsimp only; omega⟩, ⟨by dsimp only; omega, by dsimp only; omega⟩⟩)
      dsimp only at H1
      clear hx hxw g0 g1 g2 HS
      go_wp2_with fail
      refine H1.out.mono ?_
      rintro e w4 ⟨⟨n4, rfl⟩, h4⟩
      generalize (setP lo ⟨(i : Int), (i : Int), (i : Int)⟩).1 = lo2 at h4
      have h5 := h4.alloc (.cells #[.int .i64 xp, .int .i64 xs, .int .i64 xo] 35)
      obtain ⟨k0, k1, k2⟩ := HCW.out w4 h4.since
      have HX5 : Hid ((fun b => if b = w4.heap.size then some (Obj.cells #[.int .i64 xp, .int .i64 xs, .int .i64 xo] 35) else none) w4.heap.size = some (Obj.cells #[.int .i64 xp, .int .i64 xs, .int .i64 xo] 35)) := Lib.hid (if_pos rfl)
      have H5 := Lib.hid h5
      clear h4 h5 H1 HCW
      have hsame : ∀ W : World, W.heap[w4.heap.size]? = some (Obj.cells #[.int .i64 xp, .int .i64 xs, .int .i64 xo] 35) → (W.cell? ⟨w4.heap.size, 0, none⟩ = some (.int .i64 xp) ∧ W.cell? ⟨w4.heap.size, 1, none⟩ = some (.int .i64 xs) ∧ W.cell? ⟨w4.heap.size, 2, none⟩ = some (.int .i64 xo)) := fun W hW => by
        refine ⟨?_, ?_, ?_⟩ <;> (unfold World.cell?; rw [hW]; rfl)
      have HSM := Lib.hid hsame
      clear hsame
      generalize hX : (fun b => if b = w4.heap.size then some (Obj.cells #[.int .i64 xp, .int .i64 xs, .int .i64 xo] 35) else none) = X at *
      obtain ⟨a1, a2, hask⟩ : ∃ a1 a2, askP l xp xs = (a1, a2) := ⟨_, _, rfl⟩
      obtain ⟨l2, er, hset⟩ : ∃ l2 er, setP l ⟨xp, xs, xo⟩ = (l2, er) := ⟨_, _, rfl⟩
      have K1 := Lib.hid (fun (W : World) (h : Trio w W g q l l (some (o, lo2)) X) => h.pask xp xs HX.out.1 HX.out.2.1)
      have K2 := Lib.hid (fun (W : World) (h : Trio w W g q l l (some (o, lo2)) X) => h.rask xp xs HX.out.2.1)
      have K3 := Lib.hid (fun (W : World) (h : Trio w W g q l l (some (o, lo2)) X) => h.pset ⟨xp, xs, xo⟩ HX.out)
      have K4 := Lib.hid (fun (W : World) (h : Trio w W g q l2 l (some (o, lo2)) X) => h.rset ⟨xp, xs, xo⟩ HX.out)
      have K5 := Lib.hid (fun (W : World) (h : Trio w W g q l2 l2 (some (o, lo2)) X) => h.prows)
      rw [hask] at K1 K2
      rw [hset] at K3 K4
      dsimp only at K1 K2 K3 K4
      have n1 : (a1 != a1) = false := by simp
      have n2 : (a2 != a2) = false := by simp
      have n3 : (er != er) = false := by simp
      clear hask hset hX
      go_wp2_with fail
      generalize w4.alloc (.cells #[.int .i64 xp, .int .i64 xs, .int .i64 xo] 35) = w5 at *
      generalize w4.heap.size = xb at *
      obtain ⟨x0, x1, _⟩ := HSM.out _ (H5.out.held HX5.out)
      go_wp2_with fail
      refine (K1.out _ H5.out).mono ?_
      rintro e w6 ⟨rfl, h6⟩
      obtain ⟨y0, y1, _⟩ := HSM.out _ (h6.held HX5.out)
      have H6 := Lib.hid h6
      clear h6 x0 x1 k0 k1 k2
      go_wp2_with fail
      refine (K2.out _ H6.out).mono ?_
      rintro e w7 ⟨rfl, h7⟩
      have H7 := Lib.hid h7
      have hc7 := HSM.out _ (h7.held HX5.out)
      clear h7 y0 y1
      go_wp2_with fail
      refine wp_region_held_drew (S := fun W => W.cell? ⟨xb, 0, none⟩ = some (.int .i64 xp) ∧ W.cell? ⟨xb, 1, none⟩ = some (.int .i64 xs) ∧ W.cell? ⟨xb, 2, none⟩ = some (.int .i64 xo)) (by kernel_rfl) hc7 (fun hHeld => ?_)
      refine held_take 0 55 (v := ?v1) rfl rfl (by kernel_rfl) (by kernel_rfl) (by kernel_rfl) (fun _ _ _ h => h) hHeld (Or.inl ⟨by rfl, ?y1⟩) ?r1
      case y1 => intro W hSw; (try dsimp only at hSw); go_simp; (try with_reducible rfl)
      simp only [List.setIfInBounds_toArray, List.set_cons_zero, List.set_cons_succ]
      refine held_take 1 56 (v := ?v2) rfl rfl (by kernel_rfl) (by kernel_rfl) (by kernel_rfl) (fun _ _ _ h => h) hHeld (Or.inl ⟨by rfl, ?y2⟩) ?r2
      case y2 => intro W hSw; (try dsimp only at hSw); go_simp; (try with_reducible rfl)
      simp only [List.setIfInBounds_toArray, List.set_cons_zero, List.set_cons_succ]
      refine held_take 2 57 (v := ?v3) rfl rfl (by kernel_rfl) (by kernel_rfl) (by kernel_rfl) (fun _ _ _ h => h) hHeld (Or.inl ⟨by rfl, ?y3⟩) ?r3
      case y3 => intro W hSw; (try dsimp only at hSw); go_simp; (try with_reducible rfl)
      simp only [List.setIfInBounds_toArray, List.set_cons_zero, List.set_cons_succ]
      refine held_take 3 58 (v := ?v4) rfl rfl (by kernel_rfl) (by kernel_rfl) (by kernel_rfl) (fun _ _ _ h => h) hHeld (Or.inl ⟨by rfl, ?y4⟩) ?r4
      case y4 => intro W hSw; (try dsimp only at hSw); go_simp; (try with_reducible rfl)
      simp only [List.setIfInBounds_toArray, List.set_cons_zero, List.set_cons_succ]
      refine held_take 4 59 (v := ?v5) rfl rfl (by kernel_rfl) (by kernel_rfl) (by kernel_rfl) (fun _ _ _ h => h) hHeld (Or.inl ⟨by rfl, ?y5⟩) ?r5
      case y5 => intro W hSw; (try dsimp only at hSw); go_simp; (try with_reducible rfl)
      simp only [List.setIfInBounds_toArray, List.set_cons_zero, List.set_cons_succ]
      refine held_take 5 60 (v := ?v6) rfl rfl (by kernel_rfl) (by kernel_rfl) (by kernel_rfl) (fun _ _ _ h => h) hHeld (Or.inl ⟨by rfl, ?y6⟩) ?r6
      case y6 => intro W hSw; (try dsimp only at hSw); go_simp; (try with_reducible rfl)
      simp only [List.setIfInBounds_toArray, List.set_cons_zero, List.set_cons_succ]
      refine held_take 6 61 (v := ?v7) rfl rfl (by kernel_rfl) (by kernel_rfl) (by kernel_rfl) (fun _ _ _ h => h) hHeld (Or.inl ⟨by rfl, ?y7⟩) ?r7
      case y7 => intro W hSw; (try dsimp only at hSw); go_simp; (try with_reducible rfl)
      simp only [List.setIfInBounds_toArray, List.set_cons_zero, List.set_cons_succ]
      refine held_take 7 62 (v := ?v8) rfl rfl (by kernel_rfl) (by kernel_rfl) (by kernel_rfl) (fun _ _ _ h => h) hHeld (Or.inl ⟨by rfl, ?y8⟩) ?r8
      case y8 => intro W hSw; (try dsimp only at hSw); go_simp; (try with_reducible rfl)
      simp only [List.setIfInBounds_toArray, List.set_cons_zero, List.set_cons_succ]
      refine held_take 8 63 (v := ?v9) rfl rfl (by kernel_rfl) (by kernel_rfl) (by kernel_rfl) (fun _ _ _ h => h) hHeld (Or.inl ⟨by rfl, ?y9⟩) ?r9
      case y9 => intro W hSw; (try dsimp only at hSw); go_simp; (try with_reducible rfl)
      simp only [List.setIfInBounds_toArray, List.set_cons_zero, List.set_cons_succ]
      refine held_take 9 64 (v := ?v10) rfl rfl (by kernel_rfl) (by kernel_rfl) (by kernel_rfl) (fun _ _ _ h => h) hHeld (Or.inl ⟨by rfl, ?y10⟩) ?r10
      case y10 => intro W hSw; (try dsimp only at hSw); go_simp; (try with_reducible rfl)
      simp only [List.setIfInBounds_toArray, List.set_cons_zero, List.set_cons_succ]
      refine held_take 10 65 (v := ?v11) rfl rfl (by kernel_rfl) (by kernel_rfl) (by kernel_rfl) (fun _ _ _ h => h) hHeld (Or.inl ⟨by rfl, ?y11⟩) ?r11
      case y11 => intro W hSw; (try dsimp only at hSw); go_simp; (try with_reducible rfl)
      simp only [List.setIfInBounds_toArray, List.set_cons_zero, List.set_cons_succ]
      refine held_take 11 66 (v := ?v12) rfl rfl (by kernel_rfl) (by kernel_rfl) (by kernel_rfl) (fun _ _ _ h => h) hHeld (Or.inl ⟨by rfl, ?y12⟩) ?r12
      case y12 => intro W hSw; (try dsimp only at hSw); go_simp; (try with_reducible rfl)
      simp only [List.setIfInBounds_toArray, List.set_cons_zero, List.set_cons_succ]
      refine held_take 12 67 (v := ?v13) rfl rfl (by kernel_rfl) (by kernel_rfl) (by kernel_rfl) (fun _ _ _ h => h) hHeld (Or.inl ⟨by rfl, ?y13⟩) ?r13
      case y13 => intro W hSw; (try dsimp only at hSw); go_simp; (try with_reducible rfl)
      simp only [List.setIfInBounds_toArray, List.set_cons_zero, List.set_cons_succ]
      refine held_take 13 68 (v := ?v14) rfl rfl (by kernel_rfl) (by kernel_rfl) (by kernel_rfl) (fun _ _ _ h => h) hHeld (Or.inl ⟨by rfl, ?y14⟩) ?r14
      case y14 => intro W hSw; (try dsimp only at hSw); go_simp; (try with_reducible rfl)
      simp only [List.setIfInBounds_toArray, List.set_cons_zero, List.set_cons_succ]
      refine held_take 14 69 (v := ?v15) rfl rfl (by kernel_rfl) (by kernel_rfl) (by kernel_rfl) (fun _ _ _ h => h) hHeld (Or.inl ⟨by rfl, ?y15⟩) ?r15
      case y15 => intro W hSw; (try dsimp only at hSw); go_simp; (try with_reducible rfl)
      simp only [List.setIfInBounds_toArray, List.set_cons_zero, List.set_cons_succ]
      refine held_take 17 72 (v := ?v16) rfl rfl (by kernel_rfl) (by kernel_rfl) (by kernel_rfl) (fun _ _ _ h => h) hHeld (Or.inl ⟨by rfl, ?y16⟩) ?r16
      case y16 => intro W hSw; (try dsimp only at hSw); go_simp; (try with_reducible rfl)
      simp only [List.setIfInBounds_toArray, List.set_cons_zero, List.set_cons_succ]
      refine held_take 18 73 (v := ?v17) rfl rfl (by kernel_rfl) (by kernel_rfl) (by kernel_rfl) (fun _ _ _ h => h) hHeld (Or.inl ⟨by rfl, ?y17⟩) ?r17
      case y17 => intro W hSw; (try dsimp only at hSw); go_simp; (try with_reducible rfl)
      simp only [List.setIfInBounds_toArray, List.set_cons_zero, List.set_cons_succ]
      refine held_take 19 74 (v := ?v18) rfl rfl (by kernel_rfl) (by kernel_rfl) (by kernel_rfl) (fun _ _ _ h => h) hHeld (Or.inl ⟨by rfl, ?y18⟩) ?r18
      case y18 => intro W hSw; (try dsimp only at hSw); go_simp; (try with_reducible rfl)
      simp only [List.setIfInBounds_toArray, List.set_cons_zero, List.set_cons_succ]
      refine held_take 20 75 (v := ?v19) rfl rfl (by kernel_rfl) (by kernel_rfl) (by kernel_rfl) (fun _ _ _ h => h) hHeld (Or.inl ⟨by rfl, ?y19⟩) ?r19
      case y19 => intro W hSw; (try dsimp only at hSw); go_simp; (try with_reducible rfl)
      simp only [List.setIfInBounds_toArray, List.set_cons_zero, List.set_cons_succ]
      refine held_take 21 76 (v := ?v20) rfl rfl (by kernel_rfl) (by kernel_rfl) (by kernel_rfl) (fun _ _ _ h => h) hHeld (Or.inl ⟨by rfl, ?y20⟩) ?r20
      case y20 => intro W hSw; (try dsimp only at hSw); go_simp; (try with_reducible rfl)
      simp only [List.setIfInBounds_toArray, List.set_cons_zero, List.set_cons_succ]
      refine held_take 22 77 (v := ?v21) rfl rfl (by kernel_rfl) (by kernel_rfl) (by kernel_rfl) (fun _ _ _ h => h) hHeld (Or.inl ⟨by rfl, ?y21⟩) ?r21
      case y21 => intro W hSw; (try dsimp only at hSw); go_simp; (try with_reducible rfl)
      simp only [List.setIfInBounds_toArray, List.set_cons_zero, List.set_cons_succ]
      refine held_take 23 78 (v := ?v22) rfl rfl (by kernel_rfl) (by kernel_rfl) (by kernel_rfl) (fun _ _ _ h => h) hHeld (Or.inl ⟨by rfl, ?y22⟩) ?r22
      case y22 => intro W hSw; (try dsimp only at hSw); go_simp; (try with_reducible rfl)
      simp only [List.setIfInBounds_toArray, List.set_cons_zero, List.set_cons_succ]
      refine wpAnyH_ready (rs := [15]) (by kernel_rfl) (by simp) ?_
      refine AllReadyH.cons rfl (fun K hK => ?_) AllReadyH.nil
      go_simp
      refine (K3.out w7.drew (H7.out.below (Below.refl _ w7).drew)).mono ?_
      rintro e w8 ⟨rfl, h8⟩
      have H8 := Lib.hid h8
      have hc8 := HSM.out _ (h8.held HX5.out)
      clear h8
      refine hK.out _ _ hc8 (fun hHeld => ?_)
      clear hK K
      (try simp only [Act.put, List.setIfInBounds_toArray, List.set_cons_zero, List.set_cons_succ])
      refine wpAnyH_ready (rs := [16]) (by kernel_rfl) (by simp) ?_
      refine AllReadyH.cons rfl (fun K hK => ?_) AllReadyH.nil
      go_simp
      refine (HNU.out _ _).mono ?_
      rintro e w9 ⟨rfl, rfl⟩
      refine hK.out _ _ hHeld (fun hHeld => ?_)
      clear hK K
      (try simp only [Act.put, List.setIfInBounds_toArray, List.set_cons_zero, List.set_cons_succ])
      refine wpAnyH_ready (rs := [24]) (by kernel_rfl) (by simp) ?_
      refine AllReadyH.cons rfl (fun K hK => ?_) AllReadyH.nil
      go_simp
      refine (K4.out _ H8.out).mono ?_
      rintro e w10 ⟨rfl, h10⟩
      have H10 := Lib.hid h10
      have hc10 := HSM.out _ (h10.held HX5.out)
      clear h10
      refine hK.out _ _ hc10 (fun hHeld => ?_)
      clear hK K
      (try simp only [Act.put, List.setIfInBounds_toArray, List.set_cons_zero, List.set_cons_succ])
      refine held_take 25 80 (v := ?v23) rfl rfl (by kernel_rfl) (by kernel_rfl) (by kernel_rfl) (fun _ _ _ h => h) hHeld (Or.inl ⟨by rfl, ?y23⟩) ?r23
      case y23 => intro W hSw; (try dsimp only at hSw); go_simp; (try with_reducible rfl)
      simp only [List.setIfInBounds_toArray, List.set_cons_zero, List.set_cons_succ]
      refine held_take 26 81 (v := ?v24) rfl rfl (by kernel_rfl) (by kernel_rfl) (by kernel_rfl) (fun _ _ _ h => h) hHeld (Or.inl ⟨by rfl, ?y24⟩) ?r24
      case y24 => intro W hSw; (try dsimp only at hSw); go_simp; (try with_reducible rfl)
      simp only [List.setIfInBounds_toArray, List.set_cons_zero, List.set_cons_succ]
      refine held_take 27 82 (v := ?v25) rfl rfl (by kernel_rfl) (by kernel_rfl) (by kernel_rfl) (fun _ _ _ h => h) hHeld (Or.inl ⟨by rfl, ?y25⟩) ?r25
      case y25 => intro W hSw; (try dsimp only at hSw); go_simp; (try with_reducible rfl)
      simp only [List.setIfInBounds_toArray, List.set_cons_zero, List.set_cons_succ]
      obtain ⟨T5, A5, cap5, hc5, hl5⟩ := H10.out.rl
      refine wpAnyH_switch (fun W => (W.cell? ⟨xb, 0, none⟩ = some (.int .i64 xp) ∧ W.cell? ⟨xb, 1, none⟩ = some (.int .i64 xs) ∧ W.cell? ⟨xb, 2, none⟩ = some (.int .i64 xo)) ∧ W.cell? ⟨q, 0, none⟩ = some (.slice A5 l2.length cap5)) (fun W h => h.1) _ _ _ _ ?_
      have hHeld := And.intro hHeld hc5
      refine held_take 29 84 (v := ?v26) rfl rfl (by kernel_rfl) (by kernel_rfl) (by kernel_rfl) (fun _ _ _ h => h) hHeld (Or.inl ⟨by rfl, ?y26⟩) ?r26
      case y26 => intro W hSw; (try dsimp only at hSw); go_simp; (try with_reducible rfl)
      simp only [List.setIfInBounds_toArray, List.set_cons_zero, List.set_cons_succ]
      refine held_take 30 85 (v := ?v27) rfl rfl (by kernel_rfl) (by kernel_rfl) (by kernel_rfl) (fun _ _ _ h => h) hHeld (Or.inl ⟨by rfl, ?y27⟩) ?r27
      case y27 => intro W hSw; (try dsimp only at hSw); go_simp; (try with_reducible rfl)
      simp only [List.setIfInBounds_toArray, List.set_cons_zero, List.set_cons_succ]
      refine held_take 31 86 (v := ?v28) rfl rfl (by kernel_rfl) (by kernel_rfl) (by kernel_rfl) (fun _ _ _ h => h) hHeld (Or.inl ⟨by rfl, ?y28⟩) ?r28
      case y28 => intro W hSw; (try dsimp only at hSw); go_simp; (try with_reducible rfl)
      simp only [List.setIfInBounds_toArray, List.set_cons_zero, List.set_cons_succ]
      refine held_take 32 87 (v := ?v29) rfl rfl (by kernel_rfl) (by kernel_rfl) (by kernel_rfl) (fun _ _ _ h => h) hHeld (Or.inl ⟨by rfl, ?y29⟩) ?r29
      case y29 => intro W hSw; (try dsimp only at hSw); go_simp; (try with_reducible rfl)
      simp only [List.setIfInBounds_toArray, List.set_cons_zero, List.set_cons_succ]
      refine wpAnyH_ready (rs := [28]) (by kernel_rfl) (by simp) ?_
      refine AllReadyH.cons rfl (fun K hK => ?_) AllReadyH.nil
      go_simp
      refine (K5.out _ H10.out).mono ?_
      rintro e w11 ⟨v6, rfl, hown6, hb6, h6⟩
      have hc6 : w11.cell? ⟨q, 0, none⟩ = some (.slice A5 l2.length cap5) := (hb6.cell (p := ⟨q, 0, none⟩) (cell_block_lt hc5)).trans hc5
      obtain ⟨T6, A6, cap6, hd6, hl6⟩ := h6.rl
      rw [hc6] at hd6
      injection hd6 with hd6
      injection hd6 with e1 _ e3
      subst e1 e3
      obtain ⟨A7, c7, rfl, hl7, _⟩ := OwnS.parts hown6
      have HSR := Lib.hid (samerows_any w11 l2 l2 _ T6 A7 A5 c7 cap5 hl7 hl6)
      have H11 := Lib.hid h6
      have hc11 := HSM.out _ (h6.held HX5.out)
      clear hown6 hb6 h6 hl7 hl6
      refine hK.out _ _ ⟨hc11, hc6⟩ (fun hHeld => ?_)
      clear hK K
      (try simp only [Act.put, List.setIfInBounds_toArray, List.set_cons_zero, List.set_cons_succ])
      refine wpAnyH_ready (rs := [33]) (by kernel_rfl) (by simp) ?_
      refine AllReadyH.cons rfl (fun K hK => ?_) AllReadyH.nil
      go_simp
      refine (HSR.out).mono ?_
      rintro e w12 ⟨d7, m7, rfl, hd7, rfl⟩
      obtain rfl : d7 = true := hd7.2 rfl
      refine hK.out _ _ hHeld (fun hHeld => ?_)
      clear hK K
      (try simp only [Act.put, List.setIfInBounds_toArray, List.set_cons_zero, List.set_cons_succ])
      refine held_take 34 89 (v := ?v30) rfl rfl (by kernel_rfl) (by kernel_rfl) (by kernel_rfl) (fun _ _ _ h => h) hHeld (Or.inl ⟨by rfl, ?y30⟩) ?r30
      case y30 => intro W hSw; (try dsimp only at hSw); go_simp; (try with_reducible rfl)
      simp only [List.setIfInBounds_toArray, List.set_cons_zero, List.set_cons_succ]
      refine held_take 35 90 (v := ?v31) rfl rfl (by kernel_rfl) (by kernel_rfl) (by kernel_rfl) (fun _ _ _ h => h) hHeld (Or.inl ⟨by rfl, ?y31⟩) ?r31
      case y31 => intro W hSw; (try dsimp only at hSw); go_simp; (try with_reducible rfl)
      simp only [List.setIfInBounds_toArray, List.set_cons_zero, List.set_cons_succ]
      refine wpAnyH_done (by kernel_rfl) ?_ _
      have H12 := Lib.hid (H11.out.below (below_drewN (Below.refl _ w11) m7))
      have HF : Hid (Trio w (w11.drewN m7) g q l2 l2 (some (o, lo2)) (fun _ => none)) := Lib.hid (by
        obtain ⟨f1, S, T, O, f2, f3, f4, f5, _⟩ := H12.out
        exact ⟨f1, S, T, O, f2, f3, f4, f5, fun _ _ e => by cases e⟩)
      clear hHeld
      go_wp2_with fail
      go_roundw
      case rel => exact ⟨i + 1, l2, lo2, by go_num, hlt, HF.out⟩
      case measure => simp [intOf]; omega
    · obtain rfl : i = z0.length := by omega
      have HE := Lib.hid HS.out.since
      clear HS hlt
      go_wp2_with fail
      go_ret
      exact ⟨rfl, HE.out⟩

set_option maxRecDepth 100000 in
theorem lifted (os : Os) (started : os.Started) (H : Type) (enc : TypeId × Value → H) :
    ReturnsInHanded {} Try.checked os 3 .any (Rows.dedupPlaysSpec.pre6 enc Try.prog Try.f3 Rows.dedupPlaysRow.domain false) (Rows.dedupPlaysSpec.post enc Try.prog Try.f3 false true false false) := by
  refine returnsInHanded_of_change (C := Try.checked) own started (by kernel_rfl) Try.func3
    (ChangeSpec.witness6 (enc := enc) (C := Try.checked) false ⟨#[], #[.slice none 0 0], []⟩ 8 (by kernel_rfl) (by kernel_rfl) (by kernel_rfl) (by kernel_rfl)) ?_
  intro W base args ds gs before hval0 hW hcnd _
  have hval : ∀ (j : Nat) t v, Try.f3.params[j]? = some t → args[j]? = some v → Value.okWide Try.prog W .any base t v := hval0
  have hW' := hW
  obtain ⟨p, q, hA0, hV, rfl, hfz, hnd⟩ := hW
  have hA : DataW.TrodAll enc Try.prog W 0 (fun _ => true) true Try.f3.params.toList args.toList ds p := hA0
  rw [Try.params3] at hA hval
  obtain ⟨v0, vs0, d0, ds0, p0, q0, hargs, rfl, rfl, h0, r0⟩ := trodAll_cons hA
  obtain ⟨rfl, rfl, rfl⟩ := trodAll_nil r0
  obtain rfl : args = #[v0] := by cases args; simp_all
  obtain ⟨rfl, rfl⟩ := trodVars_none hV
  have k0 := h0
  have lt0 : ∀ x ∈ p0, x.block < W.heap.size := by obtain ⟨m, hm⟩ := k0; exact DataW.trod_lt m _ _ _ hm
  obtain ⟨a0, cap0, z0, rfl, w0⟩ := trips_came (hval 0 22 v0 rfl rfl) h0
  clear hA0 hval0
  refine (walk a0 cap0 z0 W w0).mono fun e W' ⟨he, bel⟩ => ?_
  subst he
  exact ⟨_, rfl, _, _, _, [], _, [], hW', trodAll_mk1 (shut_bool Try.underlying4 _), (trodAll_cons_mk (Below.trod laidOut (by kernel_rfl) (of_decide_eq_true (by kernel_rfl)) k0 bel lt0) trodAll_mk0), rfl, bel.frame _, fun h => by cases h⟩

theorem over : Rows.dedupPlaysRow.holds Try.pinned (OpenSpec.ofChange Rows.dedupPlaysSpec) :=
  OpenClaim.holds_of_wide 3 Try.f3 rfl rfl rfl rfl rfl rfl rfl ⟨rfl, rfl, rfl, rfl, rfl⟩ rfl rfl rfl rfl rfl (by kernel_rfl) Try.func3 (by kernel_rfl)
    (of_decide_eq_true (by kernel_rfl)) (by unfold Func.isWrapper; first | (rw [if_pos (by decide +kernel)]; kernel_rfl) | (rw [if_neg (by decide +kernel)]; exact ⟨rfl, rfl⟩))
    (fun os started H enc _ => lifted os started H enc)

theorem proved : Rows.DedupPlaysSaid := over
#print axioms proved
end Go.Proofs.Ytgjgbelloobdfaa.dedupPlays
