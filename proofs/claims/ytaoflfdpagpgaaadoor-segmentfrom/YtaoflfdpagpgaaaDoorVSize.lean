/- A contract of the program's record.Size. -/
import Derived.Test.YtaoflfdpagpgaaaDoorVHead
import Derived.Test.YtaoflfdpagpgaaaDoorVRight
namespace Go.Proofs.YtaoflfdpagpgaaaDoor
open Go.RowKit

theorem recL_size (r : Rec) : (recL r).length = (headL r).length + r.key.size + (putL (r.val.size : Int)).length + r.val.size := by
  rw [recL_head]
  simp only [List.length_append, ints_length]
  omega

set_option maxRecDepth 100000 in
set_option maxHeartbeats 4000000 in
theorem vsize_any (r : Rec) (w : World) : Calls Tryd.prog 31 #[recV r] w (fun e w' => e = .returned (.int .i64 ((putR r).length : Nat)) ∧ Below w.heap.size w w') := by
  have hbx := Boxed.new w r 38
  have hw0 : Below w.heap.size w (w.alloc (.cells #[.int .i64 r.off, .int .i64 r.time, .string r.key, .string r.val, .bool r.dead] 38)) := (Below.refl _ _).alloc (Nat.le_refl _) _
  have hs0 : (w.alloc (.cells #[.int .i64 r.off, .int .i64 r.time, .string r.key, .string r.val, .bool r.dead] 38)).heap.size = w.heap.size + 1 := by simp
  have hrr := fun W => vright_any r W
  unfold recV at hrr
  have HRR := Lib.hid hrr
  clear hrr
  obtain ⟨L, hL⟩ : ∃ L, (putR r).length = L := ⟨_, rfl⟩
  rw [hL]
  have HLL := Lib.hid hL
  clear hL
  unfold recV
  go_enter Tryd.func31, Tryd.ntmps31
  obtain ⟨W0, hW0⟩ : ∃ W0, w.alloc (.cells #[.int .i64 r.off, .int .i64 r.time, .string r.key, .string r.val, .bool r.dead] 38) = W0 := ⟨_, rfl⟩
  rw [hW0] at hbx hw0 hs0
  obtain ⟨z0, z1, z2, z3, z4, z5⟩ := hbx
  go_wp2_with fail
  refine (HRR.out W0).mono ?_
  rintro e w1 ⟨rfl, hb1⟩
  have hbw1 : Below w.heap.size w w1 := hw0.trans (hb1.mono hw0.size)
  have hbx1 := (Boxed.mk z0 z1 z2 z3 z4 z5).below hb1 z0
  clear z1 z2 z3 z4 z5 HRR hW0
  obtain ⟨p0, p1, p2, p3, p4, p5⟩ := hbx1
  by_cases hr : r.right
  · rw [decide_eq_true hr]
    obtain ⟨r1, r2, r3, r4, r5, r6, r7, r8⟩ := id hr
    have hl2 := recL_size r
    rw [← putR_right hr, HLL.out] at hl2
    have hhl := headL_length r
    have hpl := putL_length (r.val.size : Int)
    have hhead := fun W => vhead_any r W hr
    obtain ⟨H, hH⟩ : ∃ H, headL r = H := ⟨_, rfl⟩
    obtain ⟨V, hV⟩ : ∃ V, putL (r.val.size : Int) = V := ⟨_, rfl⟩
    have hlen := fun W => vlength_any r.val W (by omega)
    rw [hV] at hlen hl2 hpl
    rw [hH] at hhead hl2 hhl
    unfold recV at hhead
    have HH := Lib.hid hhead
    have HV := Lib.hid hlen
    clear hhead hlen hH hV r8 hr
    go_wp2_with fail
    refine wp_region_held_drew (S := fun W => W.cell? ⟨w.heap.size, 0, none⟩ = some (.int .i64 r.off) ∧ W.cell? ⟨w.heap.size, 1, none⟩ = some (.int .i64 r.time) ∧ W.cell? ⟨w.heap.size, 2, none⟩ = some (.string r.key) ∧ W.cell? ⟨w.heap.size, 3, none⟩ = some (.string r.val) ∧ W.cell? ⟨w.heap.size, 4, none⟩ = some (.bool r.dead)) (by kernel_rfl) ⟨p1, p2, p3, p4, p5⟩ (fun hHeld => ?_)
    refine held_take 0 6 (v := ?v1) rfl rfl (by kernel_rfl) (by kernel_rfl) (by kernel_rfl) (fun _ _ _ h => h) hHeld (Or.inl ⟨by rfl, ?y1⟩) ?r1
    case y1 => intro w hSw; (try dsimp only at hSw); go_simp; (try with_reducible rfl)
    simp only [List.setIfInBounds_toArray, List.set_cons_zero, List.set_cons_succ]
    refine held_take 3 9 (v := ?v2) rfl rfl (by kernel_rfl) (by kernel_rfl) (by kernel_rfl) (fun _ _ _ h => h) hHeld (Or.inl ⟨by rfl, ?y2⟩) ?r2
    case y2 => intro w hSw; (try dsimp only at hSw); go_simp; (try with_reducible rfl)
    simp only [List.setIfInBounds_toArray, List.set_cons_zero, List.set_cons_succ]
    refine held_take 4 10 (v := ?v3) rfl rfl (by kernel_rfl) (by kernel_rfl) (by kernel_rfl) (fun _ _ _ h => h) hHeld (Or.inl ⟨by rfl, ?y3⟩) ?r3
    case y3 => intro w hSw; (try dsimp only at hSw); go_simp; (try with_reducible rfl)
    simp only [List.setIfInBounds_toArray, List.set_cons_zero, List.set_cons_succ]
    refine held_take 5 11 (v := ?v4) rfl rfl (by kernel_rfl) (by kernel_rfl) (by kernel_rfl) (fun _ _ _ h => h) hHeld (Or.inl ⟨by rfl, ?y4⟩) ?r4
    case y4 => intro w hSw; (try dsimp only at hSw); go_simp; (try with_reducible rfl)
    simp only [List.setIfInBounds_toArray, List.set_cons_zero, List.set_cons_succ]
    refine held_take 7 13 (v := ?v5) rfl rfl (by kernel_rfl) (by kernel_rfl) (by kernel_rfl) (fun _ _ _ h => h) hHeld (Or.inl ⟨by rfl, ?y5⟩) ?r5
    case y5 => intro w hSw; (try dsimp only at hSw); go_simp; (try with_reducible rfl)
    simp only [List.setIfInBounds_toArray, List.set_cons_zero, List.set_cons_succ]
    refine held_take 8 14 (v := ?v6) rfl rfl (by kernel_rfl) (by kernel_rfl) (by kernel_rfl) (fun _ _ _ h => h) hHeld (Or.inl ⟨by rfl, ?y6⟩) ?r6
    case y6 => intro w hSw; (try dsimp only at hSw); go_simp; (try with_reducible rfl)
    simp only [List.setIfInBounds_toArray, List.set_cons_zero, List.set_cons_succ]
    refine held_take 12 18 (v := ?v7) rfl rfl (by kernel_rfl) (by kernel_rfl) (by kernel_rfl) (fun _ _ _ h => h) hHeld (Or.inl ⟨by rfl, ?y7⟩) ?r7
    case y7 => intro w hSw; (try dsimp only at hSw); go_simp; (try with_reducible rfl)
    simp only [List.setIfInBounds_toArray, List.set_cons_zero, List.set_cons_succ]
    refine held_take 13 19 (v := ?v8) rfl rfl (by kernel_rfl) (by kernel_rfl) (by kernel_rfl) (fun _ _ _ h => h) hHeld (Or.inl ⟨by rfl, ?y8⟩) ?r8
    case y8 => intro w hSw; (try dsimp only at hSw); go_simp; (try with_reducible rfl)
    simp only [List.setIfInBounds_toArray, List.set_cons_zero, List.set_cons_succ]
    refine held_take 14 20 (v := ?v9) rfl rfl (by kernel_rfl) (by kernel_rfl) (by kernel_rfl) (fun _ _ _ h => h) hHeld (Or.inl ⟨by rfl, ?y9⟩) ?r9
    case y9 => intro w hSw; (try dsimp only at hSw); go_simp; (try with_reducible rfl)
    simp only [List.setIfInBounds_toArray, List.set_cons_zero, List.set_cons_succ]
    refine wpAnyH_ready (rs := [1]) (by kernel_rfl) (by simp) ?_
    refine AllReadyH.cons rfl (fun K hK => ?_) AllReadyH.nil
    go_simp
    refine (HH.out _).mono ?_
    rintro e w2 ⟨v2, rfl, hown2, hbd2⟩
    have hb2 : Below w1.heap.size w1 w2 := below_undrew hbd2
    have hbx2 := (Boxed.mk p0 p1 p2 p3 p4 p5).below hb2 p0
    obtain ⟨q0, q1, q2, q3, q4, q5⟩ := hbx2
    refine hK.out _ _ ⟨q1, q2, q3, q4, q5⟩ (fun _ => ?_)
    clear hK K hHeld hbd2 p1 p2 p3 p4 p5
    obtain ⟨A2, c2, rfl, hc2, hm2, hl2', hn2⟩ := hown2.parts2
    have hHeld := And.intro q1 (And.intro q2 (And.intro q3 (And.intro q4 q5)))
    (try simp only [Act.put, List.setIfInBounds_toArray, List.set_cons_zero, List.set_cons_succ])
    refine held_take 2 8 (v := ?v10) rfl rfl (by kernel_rfl) (by kernel_rfl) (by kernel_rfl) (fun _ _ _ h => h) hHeld (Or.inl ⟨by rfl, ?y10⟩) ?r10
    case y10 => intro w hSw; (try dsimp only at hSw); go_simp; (try with_reducible rfl)
    simp only [List.setIfInBounds_toArray, List.set_cons_zero, List.set_cons_succ]
    refine held_take 6 12 (v := ?v11) rfl rfl (by kernel_rfl) (by kernel_rfl) (by kernel_rfl) (fun _ _ _ h => h) hHeld (Or.inl ⟨by rfl, ?y11⟩) ?r11
    case y11 => intro w hSw; (try dsimp only at hSw); go_simp; (try with_reducible rfl)
    simp only [List.setIfInBounds_toArray, List.set_cons_zero, List.set_cons_succ]
    refine wpAnyH_ready (rs := [9]) (by kernel_rfl) (by simp) ?_
    refine AllReadyH.cons rfl (fun K hK => ?_) AllReadyH.nil
    go_simp
    refine (HV.out _).mono ?_
    rintro e w3 ⟨v3, rfl, hown3, hb3⟩
    have hbx3 := (Boxed.mk q0 q1 q2 q3 q4 q5).below hb3 q0
    obtain ⟨s0, s1, s2, s3, s4, s5⟩ := hbx3
    refine hK.out _ _ ⟨s1, s2, s3, s4, s5⟩ (fun _ => ?_)
    clear hK K hHeld q1 q2 q3 q4 q5
    obtain ⟨A3, c3, rfl, hc3, hm3, hl3', hn3⟩ := hown3.parts2
    have hHeld := And.intro s1 (And.intro s2 (And.intro s3 (And.intro s4 s5)))
    (try simp only [Act.put, List.setIfInBounds_toArray, List.set_cons_zero, List.set_cons_succ])
    refine held_take 10 16 (v := ?v12) rfl rfl (by kernel_rfl) (by kernel_rfl) (by kernel_rfl) (fun _ _ _ h => h) hHeld (Or.inl ⟨by rfl, ?y12⟩) ?r12
    case y12 => intro w hSw; (try dsimp only at hSw); go_simp; (try with_reducible rfl)
    simp only [List.setIfInBounds_toArray, List.set_cons_zero, List.set_cons_succ]
    refine held_take 11 17 (v := ?v13) rfl rfl (by kernel_rfl) (by kernel_rfl) (by kernel_rfl) (fun _ _ _ h => h) hHeld (Or.inl ⟨by rfl, ?y13⟩) ?r13
    case y13 => intro w hSw; (try dsimp only at hSw); go_simp; (try with_reducible rfl)
    simp only [List.setIfInBounds_toArray, List.set_cons_zero, List.set_cons_succ]
    refine held_take 15 21 (v := ?v14) rfl rfl (by kernel_rfl) (by kernel_rfl) (by kernel_rfl) (fun _ _ _ h => h) hHeld (Or.inl ⟨by rfl, ?y14⟩) ?r14
    case y14 => intro w hSw; (try dsimp only at hSw); go_simp; (try with_reducible rfl)
    simp only [List.setIfInBounds_toArray, List.set_cons_zero, List.set_cons_succ]
    refine held_take 16 2 (v := ?v15) rfl rfl (by kernel_rfl) (by kernel_rfl) (by kernel_rfl) (fun _ _ _ h => h) hHeld (Or.inl ⟨by rfl, ?y15⟩) ?r15
    case y15 => intro w hSw; (try dsimp only at hSw); go_simp; (try with_reducible rfl)
    simp only [List.setIfInBounds_toArray, List.set_cons_zero, List.set_cons_succ]
    refine wpAnyH_done (by kernel_rfl) ?_ _
    go_wp2
    go_ret
    refine ⟨?_, hbw1.trans ((hb2.mono hbw1.size).trans (hb3.mono (by have := hbw1.size; have := hb2.size; omega)))⟩
    have e1 : IntKind.i64.wrap ((H.length : Int) + (r.key.size : Int)) = (H.length : Int) + (r.key.size : Int) := by
      simp only [IntKind.wrap, IntKind.signed, IntKind.bits]; simp; omega
    have e2 : IntKind.i64.wrap ((H.length : Int) + (r.key.size : Int) + (V.length : Int)) = (H.length : Int) + (r.key.size : Int) + (V.length : Int) := by
      simp only [IntKind.wrap, IntKind.signed, IntKind.bits]; simp; omega
    have e3 : IntKind.i64.wrap ((H.length : Int) + (r.key.size : Int) + (V.length : Int) + (r.val.size : Int)) = (H.length : Int) + (r.key.size : Int) + (V.length : Int) + (r.val.size : Int) := by
      simp only [IntKind.wrap, IntKind.signed, IntKind.bits]; simp; omega
    rw [hl2, e1, e2, e3]
    simp
  · rw [decide_eq_false hr]
    have HZ := Lib.hid (show L = 0 by rw [← HLL.out, putR_wrong hr]; rfl)
    go_wp2
    go_ret
    exact ⟨by rw [HZ.out]; rfl, hbw1⟩
end Go.Proofs.YtaoflfdpagpgaaaDoor
