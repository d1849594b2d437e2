/- Contracts of the program's record.length and record.head. · A contract of the program's record.Size. · A contract of the program's record.Put. -/
import Derived.Test.YtiglignfjegilaaDoorAppendText
import Derived.Test.YtiglignfjegilaaDoorV1
import Derived.Test.YtiglignfjegilaaDoorRecWords
import Derived.Test.YtiglignfjegilaaDoorVRight
namespace Go.Proofs.YtiglignfjegilaaDoor
open Go.RowKit

theorem vlength_any (s : ByteArray) (w : World) (h : s.size ≤ 1000000000000) : Calls Tryd.prog 48 #[.string s] w (NewBytes w (putL (s.size : Int))) := by
  have HP := Lib.hid (put_nil (s.size : Int) w (by omega) (by omega))
  have hwk : IntKind.u64.wrap (s.size : Int) = (s.size : Int) := by rw [IntKind.wrap_u64]; omega
  go_enter Tryd.func48, Tryd.ntmps48
  go_wp2_with fail
  refine HP.out.mono ?_
  rintro e w1 ⟨v1, rfl, hown1, hb1⟩
  go_wp2
  go_ret
  exact ⟨v1, rfl, hown1, hb1⟩

/-- What stands ahead of a record's key. -/
def headL (r : Rec) : List Int := putL r.off ++ (putL (foldI r.time) ++ (deadI r.dead :: putL r.key.size))
theorem recL_head (r : Rec) : recL r = headL r ++ (ints r.key ++ (putL r.val.size ++ ints r.val)) := by
  simp [recL, bodyL, headL]
theorem headL_length (r : Rec) : (headL r).length ≤ 31 := by
  have h1 := putL_length r.off
  have h2 := putL_length (foldI r.time)
  have h3 := putL_length (r.key.size : Int)
  simp only [headL, List.length_append, List.length_cons]
  omega

set_option maxRecDepth 100000 in
set_option maxHeartbeats 4000000 in
theorem vhead_any (r : Rec) (w : World) (hr : r.right) : Calls Tryd.prog 47 #[recV r] w (NewBytes w (headL r)) := by
  obtain ⟨i0, hi0, hz0, hz1, hz2⟩ := info_parts byte_info
  obtain ⟨r1, r2, r3, r4, r5, r6, r7, r8⟩ := hr
  clear r8
  have hfr := fold_range r.time (by omega) (by omega)
  have hbx := Boxed.new w r 39
  have hw0 : Below w.heap.size w (w.alloc (.cells #[.int .i64 r.off, .int .i64 r.time, .string r.key, .string r.val, .bool r.dead] 39)) := (Below.refl _ _).alloc (Nat.le_refl _) _
  have hs0 : (w.alloc (.cells #[.int .i64 r.off, .int .i64 r.time, .string r.key, .string r.val, .bool r.dead] 39)).heap.size = w.heap.size + 1 := by simp
  have hwo : IntKind.u64.wrap r.off = r.off := by rw [IntKind.wrap_u64]; omega
  have HP1 := Lib.hid (fun W => put_nil r.off W r1 (by omega))
  unfold recV
  go_enter Tryd.func47, Tryd.ntmps47
  obtain ⟨W0, hW0⟩ : ∃ W0, w.alloc (.cells #[.int .i64 r.off, .int .i64 r.time, .string r.key, .string r.val, .bool r.dead] 39) = W0 := ⟨_, rfl⟩
  rw [hW0] at hbx hw0 hs0
  obtain ⟨z0, z1, z2, z3, z4, z5⟩ := hbx
  go_wp2_with fail
  refine (HP1.out W0).mono ?_
  rintro e w1 ⟨v1, rfl, hown1, hb1⟩
  have hbx1 := (Boxed.mk z0 z1 z2 z3 z4 z5).below hb1 z0
  clear z1 z2 z3 z4 z5 HP1 hwo hW0
  have hlen1 := putL_length r.off
  obtain ⟨y1, hy1⟩ : ∃ y1, putL r.off = y1 := ⟨_, rfl⟩
  rw [hy1] at hown1 hlen1
  have HY1 := Lib.hid hy1
  clear hy1
  obtain ⟨ft, hft⟩ : ∃ ft, foldI r.time = ft := ⟨_, rfl⟩
  have hF := fold_any r.time w1 (by omega) (by omega)
  rw [hft] at hF hfr
  have HFT := Lib.hid hft
  have HF := Lib.hid hF
  clear hft hF
  obtain ⟨A1, c1, rfl, hc1, hm1, hl1, hn1⟩ := hown1.parts2
  have HP2 := Lib.hid (put_any A1 y1 c1 ft w1 hl1 hc1 (by omega) hfr.1 hfr.2)
  obtain ⟨p0, p1, p2, p3, p4, p5⟩ := hbx1
  go_wp2_with fail
  refine HF.out.mono ?_
  rintro e w2 ⟨rfl, rfl⟩
  go_wp2_with fail
  refine HP2.out.mono ?_
  rintro e w3 ⟨v3, rfl, hown3, hb3⟩
  have hbx3 := (Boxed.mk p0 p1 p2 p3 p4 p5).below hb3 p0
  have hb13 : Below w.heap.size w w3 := hw0.trans ((hb1.mono (by omega)).trans (hb3.mono (by have := hb1.size; omega)))
  have hlen2 := putL_length ft
  obtain ⟨y2, hy2⟩ : ∃ y2, y1 ++ putL ft = y2 := ⟨_, rfl⟩
  have hyl2 : y2.length ≤ 20 := by rw [← hy2, List.length_append]; omega
  rw [hy2] at hown3
  have HY2 := Lib.hid hy2
  clear hy2 p1 p2 p3 p4 p5 hl1 hown1 HP2 HF hlen1 hlen2
  obtain ⟨q0, q1, q2, q3, q4, q5⟩ := hbx3
  cases hd : r.dead with
  | true =>
    rw [hd] at q5
    have HLEN := Lib.hid (fun W => vlength_any r.key W (by omega))
    go_wp2_with (at_builtin; (refine wpList_append_int1 rfl (.tmp 16) (.tmp 18) 30 rfl w1.heap.size 5 .u8 i0 1 Tryd.underlying30 hi0 hz0 hz1 hz2 (by decide) v3 y2 rfl w3 1 rfl hown3 rfl (by omega) hb3.size ?_; intro v6 w6 hown6 hb6; refine Hid.out ?_))
    have hbx6 := (Boxed.mk q0 q1 q2 q3 q4 (by rw [hd]; exact q5)).below hb6 p0
    clear q1 q2 q3 q4 q5 hown3
    obtain ⟨y3, hy3⟩ : ∃ y3, y2 ++ [1] = y3 := ⟨_, rfl⟩
    have hyl3 : y3.length ≤ 21 := by rw [← hy3, List.length_append]; simp; omega
    rw [hy3] at hown6
    have HY3 := Lib.hid hy3
    clear hy3
    have hd6 := hbx6.c2
    refine Lib.hid ?_
    go_wp2_with fail
    refine (HLEN.out w6).mono ?_
    rintro e w7 ⟨v7, rfl, hown7, hb7⟩
    have hown67 := hown6.below hb7
    have hsz : w1.heap.size ≤ w7.heap.size := by have := hb3.size; have := hb6.size; have := hb7.size; omega
    obtain ⟨A7, c7, rfl, hc7, hm7, hl7, hn7⟩ := hown7.parts2
    have hlen3 := putL_length (r.key.size : Int)
    obtain ⟨ks, hks⟩ : ∃ ks, putL (r.key.size : Int) = ks := ⟨_, rfl⟩
    rw [hks] at hlen3 hc7 hl7 hown7 ⊢
    have HKS := Lib.hid hks
    clear hks hown7
    go_wp2_with (at_builtin; (refine wpList_append_ints rfl (.tmp 20) (.tmp 23) 30 rfl w1.heap.size 5 .u8 i0 1 Tryd.underlying30 hi0 hz0 hz1 hz2 (by decide) v6 y3 rfl hown67 w7.heap.size A7 ks.length c7 ks rfl rfl hc7 hl7 (by omega) hsz hn7 ?_; intro v8 w8 hown8 hgr8 _))
    go_ret
    have hfin : y3 ++ ks = headL r := by
      rw [← HKS.out, ← HY3.out, ← HY2.out, ← HY1.out, ← HFT.out]
      simp [headL, hd, deadI]
    rw [hfin] at hown8
    have hb8 := hown67.grown_below hgr8 hsz
    have hz1' := hb1.size
    exact ⟨v8, rfl, hown8.lower (by omega), hb13.trans ((hb6.mono (by omega)).trans ((hb7.mono (by have := hb13.size; have := hb6.size; omega)).trans (hb8.mono (by omega))))⟩
  | false =>
    rw [hd] at q5
    have HLEN := Lib.hid (fun W => vlength_any r.key W (by omega))
    go_wp2_with (at_builtin; (refine wpList_append_int1 rfl (.tmp 16) (.tmp 18) 30 rfl w1.heap.size 5 .u8 i0 1 Tryd.underlying30 hi0 hz0 hz1 hz2 (by decide) v3 y2 rfl w3 0 rfl hown3 rfl (by omega) hb3.size ?_; intro v6 w6 hown6 hb6; refine Hid.out ?_))
    have hbx6 := (Boxed.mk q0 q1 q2 q3 q4 (by rw [hd]; exact q5)).below hb6 p0
    clear q1 q2 q3 q4 q5 hown3
    obtain ⟨y3, hy3⟩ : ∃ y3, y2 ++ [0] = y3 := ⟨_, rfl⟩
    have hyl3 : y3.length ≤ 21 := by rw [← hy3, List.length_append]; simp; omega
    rw [hy3] at hown6
    have HY3 := Lib.hid hy3
    clear hy3
    have hd6 := hbx6.c2
    refine Lib.hid ?_
    go_wp2_with fail
    refine (HLEN.out w6).mono ?_
    rintro e w7 ⟨v7, rfl, hown7, hb7⟩
    have hown67 := hown6.below hb7
    have hsz : w1.heap.size ≤ w7.heap.size := by have := hb3.size; have := hb6.size; have := hb7.size; omega
    obtain ⟨A7, c7, rfl, hc7, hm7, hl7, hn7⟩ := hown7.parts2
    have hlen3 := putL_length (r.key.size : Int)
    obtain ⟨ks, hks⟩ : ∃ ks, putL (r.key.size : Int) = ks := ⟨_, rfl⟩
    rw [hks] at hlen3 hc7 hl7 hown7 ⊢
    have HKS := Lib.hid hks
    clear hks hown7
    go_wp2_with (at_builtin; (refine wpList_append_ints rfl (.tmp 20) (.tmp 23) 30 rfl w1.heap.size 5 .u8 i0 1 Tryd.underlying30 hi0 hz0 hz1 hz2 (by decide) v6 y3 rfl hown67 w7.heap.size A7 ks.length c7 ks rfl rfl hc7 hl7 (by omega) hsz hn7 ?_; intro v8 w8 hown8 hgr8 _))
    go_ret
    have hfin : y3 ++ ks = headL r := by
      rw [← HKS.out, ← HY3.out, ← HY2.out, ← HY1.out, ← HFT.out]
      simp [headL, hd, deadI]
    rw [hfin] at hown8
    have hb8 := hown67.grown_below hgr8 hsz
    have hz1' := hb1.size
    exact ⟨v8, rfl, hown8.lower (by omega), hb13.trans ((hb6.mono (by omega)).trans ((hb7.mono (by have := hb13.size; have := hb6.size; omega)).trans (hb8.mono (by omega))))⟩
end Go.Proofs.YtiglignfjegilaaDoor

namespace Go.Proofs.YtiglignfjegilaaDoor
open Go.RowKit

theorem recL_size (r : Rec) : (recL r).length = (headL r).length + r.key.size + (putL (r.val.size : Int)).length + r.val.size := by
  rw [recL_head]
  simp only [List.length_append, ints_length]
  omega

set_option maxRecDepth 100000 in
set_option maxHeartbeats 4000000 in
theorem vsize_any (r : Rec) (w : World) : Calls Tryd.prog 46 #[recV r] w (fun e w' => e = .returned (.int .i64 ((putR r).length : Nat)) ∧ Below w.heap.size w w') := by
  have hbx := Boxed.new w r 39
  have hw0 : Below w.heap.size w (w.alloc (.cells #[.int .i64 r.off, .int .i64 r.time, .string r.key, .string r.val, .bool r.dead] 39)) := (Below.refl _ _).alloc (Nat.le_refl _) _
  have hs0 : (w.alloc (.cells #[.int .i64 r.off, .int .i64 r.time, .string r.key, .string r.val, .bool r.dead] 39)).heap.size = w.heap.size + 1 := by simp
  have hrr := fun W => vright_any r W
  unfold recV at hrr
  have HRR := Lib.hid hrr
  clear hrr
  obtain ⟨L, hL⟩ : ∃ L, (putR r).length = L := ⟨_, rfl⟩
  rw [hL]
  have HLL := Lib.hid hL
  clear hL
  unfold recV
  go_enter Tryd.func46, Tryd.ntmps46
  obtain ⟨W0, hW0⟩ : ∃ W0, w.alloc (.cells #[.int .i64 r.off, .int .i64 r.time, .string r.key, .string r.val, .bool r.dead] 39) = W0 := ⟨_, rfl⟩
  rw [hW0] at hbx hw0 hs0
  obtain ⟨z0, z1, z2, z3, z4, z5⟩ := hbx
  go_wp2_with fail
  refine (HRR.out W0).mono ?_
  rintro e w1 ⟨rfl, hb1⟩
  have hbw1 : Below w.heap.size w w1 := hw0.trans (hb1.mono hw0.size)
  have hbx1 := (Boxed.mk z0 z1 z2 z3 z4 z5).below hb1 z0
  clear z1 z2 z3 z4 z5 HRR hW0
  obtain ⟨p0, p1, p2, p3, p4, p5⟩ := hbx1
  by_cases hr : r.right
  · rw [decide_eq_true hr]
    obtain ⟨r1, r2, r3, r4, r5, r6, r7, r8⟩ := id hr
    have hl2 := recL_size r
    rw [← putR_right hr, HLL.out] at hl2
    have hhl := headL_length r
    have hpl := putL_length (r.val.size : Int)
    have hhead := fun W => vhead_any r W hr
    obtain ⟨H, hH⟩ : ∃ H, headL r = H := ⟨_, rfl⟩
    obtain ⟨V, hV⟩ : ∃ V, putL (r.val.size : Int) = V := ⟨_, rfl⟩
    have hlen := fun W => vlength_any r.val W (by omega)
    rw [hV] at hlen hl2 hpl
    rw [hH] at hhead hl2 hhl
    unfold recV at hhead
    have HH := Lib.hid hhead
    have HV := Lib.hid hlen
    clear hhead hlen hH hV r8 hr
    go_wp2_with fail
    refine wp_region_held_drew (S := fun W => W.cell? ⟨w.heap.size, 0, none⟩ = some (.int .i64 r.off) ∧ W.cell? ⟨w.heap.size, 1, none⟩ = some (.int .i64 r.time) ∧ W.cell? ⟨w.heap.size, 2, none⟩ = some (.string r.key) ∧ W.cell? ⟨w.heap.size, 3, none⟩ = some (.string r.val) ∧ W.cell? ⟨w.heap.size, 4, none⟩ = some (.bool r.dead)) (by kernel_rfl) ⟨p1, p2, p3, p4, p5⟩ (fun hHeld => ?_)
    refine held_take 0 6 (v := ?v1) rfl rfl (by kernel_rfl) (by kernel_rfl) (by kernel_rfl) (fun _ _ _ h => h) hHeld (Or.inl ⟨by rfl, ?y1⟩) ?r1
    case y1 => intro w hSw; (try dsimp only at hSw); go_simp; (try with_reducible rfl)
    simp only [List.setIfInBounds_toArray, List.set_cons_zero, List.set_cons_succ]
    refine held_take 3 9 (v := ?v2) rfl rfl (by kernel_rfl) (by kernel_rfl) (by kernel_rfl) (fun _ _ _ h => h) hHeld (Or.inl ⟨by rfl, ?y2⟩) ?r2
    case y2 => intro w hSw; (try dsimp only at hSw); go_simp; (try with_reducible rfl)
    simp only [List.setIfInBounds_toArray, List.set_cons_zero, List.set_cons_succ]
    refine held_take 4 10 (v := ?v3) rfl rfl (by kernel_rfl) (by kernel_rfl) (by kernel_rfl) (fun _ _ _ h => h) hHeld (Or.inl ⟨by rfl, ?y3⟩) ?r3
    case y3 => intro w hSw; (try dsimp only at hSw); go_simp; (try with_reducible rfl)
    simp only [List.setIfInBounds_toArray, List.set_cons_zero, List.set_cons_succ]
    refine held_take 5 11 (v := ?v4) rfl rfl (by kernel_rfl) (by kernel_rfl) (by kernel_rfl) (fun _ _ _ h => h) hHeld (Or.inl ⟨by rfl, ?y4⟩) ?r4
    case y4 => intro w hSw; (try dsimp only at hSw); go_simp; (try with_reducible rfl)
    simp only [List.setIfInBounds_toArray, List.set_cons_zero, List.set_cons_succ]
    refine held_take 7 13 (v := ?v5) rfl rfl (by kernel_rfl) (by kernel_rfl) (by kernel_rfl) (fun _ _ _ h => h) hHeld (Or.inl ⟨by rfl, ?y5⟩) ?r5
    case y5 => intro w hSw; (try dsimp only at hSw); go_simp; (try with_reducible rfl)
    simp only [List.setIfInBounds_toArray, List.set_cons_zero, List.set_cons_succ]
    refine held_take 8 14 (v := ?v6) rfl rfl (by kernel_rfl) (by kernel_rfl) (by kernel_rfl) (fun _ _ _ h => h) hHeld (Or.inl ⟨by rfl, ?y6⟩) ?r6
    case y6 => intro w hSw; (try dsimp only at hSw); go_simp; (try with_reducible rfl)
    simp only [List.setIfInBounds_toArray, List.set_cons_zero, List.set_cons_succ]
    refine held_take 12 18 (v := ?v7) rfl rfl (by kernel_rfl) (by kernel_rfl) (by kernel_rfl) (fun _ _ _ h => h) hHeld (Or.inl ⟨by rfl, ?y7⟩) ?r7
    case y7 => intro w hSw; (try dsimp only at hSw); go_simp; (try with_reducible rfl)
    simp only [List.setIfInBounds_toArray, List.set_cons_zero, List.set_cons_succ]
    refine held_take 13 19 (v := ?v8) rfl rfl (by kernel_rfl) (by kernel_rfl) (by kernel_rfl) (fun _ _ _ h => h) hHeld (Or.inl ⟨by rfl, ?y8⟩) ?r8
    case y8 => intro w hSw; (try dsimp only at hSw); go_simp; (try with_reducible rfl)
    simp only [List.setIfInBounds_toArray, List.set_cons_zero, List.set_cons_succ]
    refine held_take 14 20 (v := ?v9) rfl rfl (by kernel_rfl) (by kernel_rfl) (by kernel_rfl) (fun _ _ _ h => h) hHeld (Or.inl ⟨by rfl, ?y9⟩) ?r9
    case y9 => intro w hSw; (try dsimp only at hSw); go_simp; (try with_reducible rfl)
    simp only [List.setIfInBounds_toArray, List.set_cons_zero, List.set_cons_succ]
    refine wpAnyH_ready (rs := [1]) (by kernel_rfl) (by simp) ?_
    refine AllReadyH.cons rfl (fun K hK => ?_) AllReadyH.nil
    go_simp
    refine (HH.out _).mono ?_
    rintro e w2 ⟨v2, rfl, hown2, hbd2⟩
    have hb2 : Below w1.heap.size w1 w2 := below_undrew hbd2
    have hbx2 := (Boxed.mk p0 p1 p2 p3 p4 p5).below hb2 p0
    obtain ⟨q0, q1, q2, q3, q4, q5⟩ := hbx2
    refine hK.out _ _ ⟨q1, q2, q3, q4, q5⟩ (fun _ => ?_)
    clear hK K hHeld hbd2 p1 p2 p3 p4 p5
    obtain ⟨A2, c2, rfl, hc2, hm2, hl2', hn2⟩ := hown2.parts2
    have hHeld := And.intro q1 (And.intro q2 (And.intro q3 (And.intro q4 q5)))
    (try simp only [Act.put, List.setIfInBounds_toArray, List.set_cons_zero, List.set_cons_succ])
    refine held_take 2 8 (v := ?v10) rfl rfl (by kernel_rfl) (by kernel_rfl) (by kernel_rfl) (fun _ _ _ h => h) hHeld (Or.inl ⟨by rfl, ?y10⟩) ?r10
    case y10 => intro w hSw; (try dsimp only at hSw); go_simp; (try with_reducible rfl)
    simp only [List.setIfInBounds_toArray, List.set_cons_zero, List.set_cons_succ]
    refine held_take 6 12 (v := ?v11) rfl rfl (by kernel_rfl) (by kernel_rfl) (by kernel_rfl) (fun _ _ _ h => h) hHeld (Or.inl ⟨by rfl, ?y11⟩) ?r11
    case y11 => intro w hSw; (try dsimp only at hSw); go_simp; (try with_reducible rfl)
    simp only [List.setIfInBounds_toArray, List.set_cons_zero, List.set_cons_succ]
    refine wpAnyH_ready (rs := [9]) (by kernel_rfl) (by simp) ?_
    refine AllReadyH.cons rfl (fun K hK => ?_) AllReadyH.nil
    go_simp
    refine (HV.out _).mono ?_
    rintro e w3 ⟨v3, rfl, hown3, hb3⟩
    have hbx3 := (Boxed.mk q0 q1 q2 q3 q4 q5).below hb3 q0
    obtain ⟨s0, s1, s2, s3, s4, s5⟩ := hbx3
    refine hK.out _ _ ⟨s1, s2, s3, s4, s5⟩ (fun _ => ?_)
    clear hK K hHeld q1 q2 q3 q4 q5
    obtain ⟨A3, c3, rfl, hc3, hm3, hl3', hn3⟩ := hown3.parts2
    have hHeld := And.intro s1 (And.intro s2 (And.intro s3 (And.intro s4 s5)))
    (try simp only [Act.put, List.setIfInBounds_toArray, List.set_cons_zero, List.set_cons_succ])
    refine held_take 10 16 (v := ?v12) rfl rfl (by kernel_rfl) (by kernel_rfl) (by kernel_rfl) (fun _ _ _ h => h) hHeld (Or.inl ⟨by rfl, ?y12⟩) ?r12
    case y12 => intro w hSw; (try dsimp only at hSw); go_simp; (try with_reducible rfl)
    simp only [List.setIfInBounds_toArray, List.set_cons_zero, List.set_cons_succ]
    refine held_take 11 17 (v := ?v13) rfl rfl (by kernel_rfl) (by kernel_rfl) (by kernel_rfl) (fun _ _ _ h => h) hHeld (Or.inl ⟨by rfl, ?y13⟩) ?r13
    case y13 => intro w hSw; (try dsimp only at hSw); go_simp; (try with_reducible rfl)
    simp only [List.setIfInBounds_toArray, List.set_cons_zero, List.set_cons_succ]
    refine held_take 15 21 (v := ?v14) rfl rfl (by kernel_rfl) (by kernel_rfl) (by kernel_rfl) (fun _ _ _ h => h) hHeld (Or.inl ⟨by rfl, ?y14⟩) ?r14
    case y14 => intro w hSw; (try dsimp only at hSw); go_simp; (try with_reducible rfl)
    simp only [List.setIfInBounds_toArray, List.set_cons_zero, List.set_cons_succ]
    refine held_take 16 2 (v := ?v15) rfl rfl (by kernel_rfl) (by kernel_rfl) (by kernel_rfl) (fun _ _ _ h => h) hHeld (Or.inl ⟨by rfl, ?y15⟩) ?r15
    case y15 => intro w hSw; (try dsimp only at hSw); go_simp; (try with_reducible rfl)
    simp only [List.setIfInBounds_toArray, List.set_cons_zero, List.set_cons_succ]
    refine wpAnyH_done (by kernel_rfl) ?_ _
    go_wp2
    go_ret
    refine ⟨?_, hbw1.trans ((hb2.mono hbw1.size).trans (hb3.mono (by have := hbw1.size; have := hb2.size; omega)))⟩
    have e1 : IntKind.i64.wrap ((H.length : Int) + (r.key.size : Int)) = (H.length : Int) + (r.key.size : Int) := by
      simp only [IntKind.wrap, IntKind.signed, IntKind.bits]; simp; omega
    have e2 : IntKind.i64.wrap ((H.length : Int) + (r.key.size : Int) + (V.length : Int)) = (H.length : Int) + (r.key.size : Int) + (V.length : Int) := by
      simp only [IntKind.wrap, IntKind.signed, IntKind.bits]; simp; omega
    have e3 : IntKind.i64.wrap ((H.length : Int) + (r.key.size : Int) + (V.length : Int) + (r.val.size : Int)) = (H.length : Int) + (r.key.size : Int) + (V.length : Int) + (r.val.size : Int) := by
      simp only [IntKind.wrap, IntKind.signed, IntKind.bits]; simp; omega
    rw [hl2, e1, e2, e3]
    simp
  · rw [decide_eq_false hr]
    have HZ := Lib.hid (show L = 0 by rw [← HLL.out, putR_wrong hr]; rfl)
    go_wp2
    go_ret
    exact ⟨by rw [HZ.out]; rfl, hbw1⟩
end Go.Proofs.YtiglignfjegilaaDoor

namespace Go.Proofs.YtiglignfjegilaaDoor
open Go.RowKit

theorem make_room (n m : Nat) (h : n + m ≤ 1099511627776) (W : World) :
    (Instr.makeSlice 30 (.int .i64 (n : Int)) (.int .i64 ((n : Int) + (m : Int)))).run Tryd.prog W = .ok (.slice (some ⟨W.heap.size, 0, none⟩) n (n + m)) (W.alloc (.cells (zeros (n + m)).toArray 5)) := by
  obtain ⟨i0, hi0, hz0, hz1, hz2⟩ := info_parts byte_info
  have hr := run_make (P := Tryd.prog) W 30 5 i0 _ Tryd.underlying30 hi0 hz0 .i64 .i64 (n : Int) ((n : Int) + (m : Int)) (by omega) (by omega) (by rw [hz2]; omega) (by omega)
  have e2 : ((n : Int) + (m : Int)).toNat = n + m := by omega
  have e3 : (madeCells (Value.int .u8 0).cells (n + m)) = (zeros (n + m)).toArray := by
    rw [← Array.toList_inj]
    exact toList_madeCells_one _ _
  rw [e2, hz1, Nat.mul_one, e3] at hr
  simpa using hr

set_option maxRecDepth 100000 in
set_option maxHeartbeats 4000000 in
theorem vrecput_any (A : Option Addr) (xs : List Int) (c : Nat) (r : Rec) (w : World) (hl : Lies .u8 w w.heap.size A xs) (hc : xs.length ≤ c) (hb : xs.length ≤ 274877906944) :
    Calls Tryd.prog 43 #[.slice A xs.length c, recV r] w (NewBytes w (xs ++ putR r)) := by
  obtain ⟨i0, hi0, hz0, hz1, hz2⟩ := info_parts byte_info
  have hbx := Boxed.new w r 39
  have hw0 : Below w.heap.size w (w.alloc (.cells #[.int .i64 r.off, .int .i64 r.time, .string r.key, .string r.val, .bool r.dead] 39)) := (Below.refl _ _).alloc (Nat.le_refl _) _
  have hs0 : (w.alloc (.cells #[.int .i64 r.off, .int .i64 r.time, .string r.key, .string r.val, .bool r.dead] 39)).heap.size = w.heap.size + 1 := by simp
  have hpl := putR_length r
  have hsz := fun W => vsize_any r W
  have hrr := fun W => vright_any r W
  have hhd := fun W h => vhead_any r W h
  obtain ⟨L, hL⟩ : ∃ L, (putR r).length = L := ⟨_, rfl⟩
  simp only [hL] at hsz
  rw [hL] at hpl
  have hmk := make_room xs.length L (by omega)
  unfold recV at hsz hrr hhd
  have HSZ := Lib.hid hsz
  have HRR := Lib.hid hrr
  have HHD := Lib.hid hhd
  clear hsz hrr hhd hL
  unfold recV
  go_enter Tryd.func43, Tryd.ntmps43
  obtain ⟨W0, hW0⟩ : ∃ W0, w.alloc (.cells #[.int .i64 r.off, .int .i64 r.time, .string r.key, .string r.val, .bool r.dead] 39) = W0 := ⟨_, rfl⟩
  rw [hW0] at hbx hw0 hs0
  obtain ⟨z0, z1, z2, z3, z4, z5⟩ := hbx
  go_wp2_with fail
  refine (HSZ.out W0).mono ?_
  rintro e w1 ⟨rfl, hb1⟩
  have hbw1 : Below w.heap.size w w1 := hw0.trans (hb1.mono hw0.size)
  have hbx1 := (Boxed.mk z0 z1 z2 z3 z4 z5).below hb1 z0
  have hl1 := hl.below hbw1
  clear z1 z2 z3 z4 z5 HSZ hW0 hb1 hl
  obtain ⟨p0, p1, p2, p3, p4, p5⟩ := hbx1
  go_wp2_with (first
    | (with_reducible refine wpList_copy_splice (o := ⟨some 16, _, _, _, _, _⟩) rfl (.tmp 14) (.tmp 15) 30 30 rfl 5 Tryd.underlying30 byte_size (some ⟨w1.heap.size, 0, none⟩) A xs.length (xs.length + L) xs.length c rfl rfl w1.heap.size 0 (zeros (xs.length + L)) 5 ?h1 (xs.map (Value.int .u8)) ?h2 ?h3 ?h4 (oneCell_ints _ _) w1.heap.size w1 ?h5 (Nat.le_refl _) ?h6))
  case h1 => exact heap_alloc_new w1 _
  case h2 => simp
  case h3 =>
    intro hp
    obtain ⟨b, off, he, hlt, hcell⟩ := hl1 (by rintro rfl; simp at hp)
    refine ⟨_, he, fun j u hu => ?_⟩
    have hj : j < xs.length := by
      rcases Nat.lt_or_ge j xs.length with h | h
      · exact h
      · rw [List.getElem?_eq_none (by simpa using h)] at hu; cases hu
    rw [add_lit, World.cell?_alloc_lt _ _ _ (by have := hbw1.size; show b < _; omega), hcell j hj]
    simpa [hj] using hu
  case h4 => simp [zeros_length]
  case h5 => exact (Below.refl _ _).alloc (Nat.le_refl _) _
  case h6 =>
    intro w2 hrow hb2
    have hown2 := splice_own hrow (Nat.le_refl w1.heap.size) rfl (by omega) (by simp only [maxLen]; omega)
    have hbx2 := (Boxed.mk p0 p1 p2 p3 p4 p5).below hb2 p0
    clear p1 p2 p3 p4 p5 hrow hmk hl1
    obtain ⟨q0, q1, q2, q3, q4, q5⟩ := hbx2
    generalize Value.slice (some ⟨w1.heap.size, 0, none⟩) xs.length (xs.length + L) = v2 at hown2 ⊢
    go_wp2_with fail
    refine (HRR.out w2).mono ?_
    rintro e w3 ⟨rfl, hb3⟩
    have hown3 := hown2.below hb3
    have hbx3 := (Boxed.mk q0 q1 q2 q3 q4 q5).below hb3 q0
    have hbw3 : Below w1.heap.size w1 w3 := hb2.trans (hb3.mono hb2.size)
    clear q1 q2 q3 q4 q5 hown2 hb3 HRR
    obtain ⟨s0, s1, s2, s3, s4, s5⟩ := hbx3
    by_cases hr : r.right
    · rw [decide_eq_true hr]
      have HPUT := Lib.hid (putR_right hr)
      obtain ⟨r1, r2, r3, r4, r5, r6, r7, r8⟩ := id hr
      have hhead := fun W => HHD.out W hr
      have hhl := headL_length r
      obtain ⟨H, hH⟩ : ∃ H, headL r = H := ⟨_, rfl⟩
      rw [hH] at hhead hhl
      have HH := Lib.hid hhead
      have HHE := Lib.hid hH
      clear hhead HHD hH r8 hr
      go_wp2_with fail
      refine (HH.out w3).mono ?_
      rintro e w4 ⟨v4, rfl, hown4, hb4⟩
      have hown34 := hown3.below hb4
      have hbx4 := (Boxed.mk s0 s1 s2 s3 s4 s5).below hb4 s0
      have hbw4 : Below w1.heap.size w1 w4 := hbw3.trans (hb4.mono hbw3.size)
      clear s1 s2 s3 s4 s5 hown3 hb4 HH
      obtain ⟨A4, c4, rfl, hc4, hm4, hl4, hn4⟩ := hown4.parts2
      have HN4 := Lib.hid hn4
      have hsz4 := hbw4.size
      obtain ⟨t0, t1, t2, t3, t4, t5⟩ := hbx4
      clear hown4 hn4
      go_wp2_with (at_builtin; (refine wpList_append_ints rfl (.tmp 21) (.tmp 23) 30 rfl w1.heap.size 5 .u8 i0 1 Tryd.underlying30 hi0 hz0 hz1 hz2 (by decide) v2 xs rfl hown34 w4.heap.size A4 H.length c4 H rfl rfl hc4 hl4 (by omega) hsz4 HN4.out ?_; intro v5 w5 hown5 hgr5 _; refine Hid.out ?_))
      have hb5 := hown34.grown_below hgr5 hsz4
      have hbw5 : Below w1.heap.size w1 w5 := hbw4.trans hb5
      have hbx5 := (Boxed.mk t0 t1 t2 t3 t4 t5).below hb5 p0
      have hsz5 := hbw5.size
      obtain ⟨y1, hy1⟩ : ∃ y1, xs ++ H = y1 := ⟨_, rfl⟩
      have hyl1 : y1.length ≤ xs.length + 31 := by rw [← hy1, List.length_append]; omega
      rw [hy1] at hown5
      have HY1 := Lib.hid hy1
      clear hy1 t1 t2 t3 t4 t5 hgr5 hl4 hown34 hb5 hbw4
      obtain ⟨u0, u1, u2, u3, u4, u5⟩ := hbx5
      refine Lib.hid ?_
      go_wp2_with (at_builtin; (refine wpList_append_text rfl (.tmp 25) (.tmp 27) 30 9 rfl w1.heap.size 5 i0 Tryd.underlying30 Tryd.underlying9 hi0 hz0 hz1 hz2 v5 y1 rfl hown5 r.key rfl (by omega) hsz5 ?_; intro v6 w6 hown6 hgr6; refine Hid.out ?_))
      have hb6 := hown5.grown_below hgr6 hsz5
      have hbw6 : Below w1.heap.size w1 w6 := hbw5.trans hb6
      have hbx6 := (Boxed.mk u0 u1 u2 u3 u4 u5).below hb6 p0
      have hsz6 := hbw6.size
      obtain ⟨y2, hy2⟩ : ∃ y2, y1 ++ ints r.key = y2 := ⟨_, rfl⟩
      have hyl2 : y2.length ≤ xs.length + 231 := by rw [← hy2, List.length_append, ints_length]; omega
      rw [hy2] at hown6
      have HY2 := Lib.hid hy2
      clear hy2 u1 u2 u3 u4 u5 hgr6 hown5 hb6 hbw5
      obtain ⟨x0, x1, x2, x3, x4, x5⟩ := hbx6
      have HLEN := Lib.hid (vlength_any r.val w6 (by omega))
      refine Lib.hid ?_
      go_wp2_with fail
      refine HLEN.out.mono ?_
      rintro e w7 ⟨v7, rfl, hown7, hb7⟩
      have hown67 := hown6.below hb7
      have hbx7 := (Boxed.mk x0 x1 x2 x3 x4 x5).below hb7 x0
      have hbw7 : Below w1.heap.size w1 w7 := hbw6.trans (hb7.mono hbw6.size)
      have hsz7 := hbw7.size
      obtain ⟨A7, c7, rfl, hc7, hm7, hl7, hn7⟩ := hown7.parts2
      have hlen3 := putL_length (r.val.size : Int)
      obtain ⟨ks, hks⟩ : ∃ ks, putL (r.val.size : Int) = ks := ⟨_, rfl⟩
      rw [hks] at hlen3 hc7 hl7 hown7 ⊢
      have HKS := Lib.hid hks
      have HN7 := Lib.hid hn7
      clear hks hown7 hn7 x1 x2 x3 x4 x5 hown6 hb7 HLEN hbw6
      obtain ⟨g0, g1, g2, g3, g4, g5⟩ := hbx7
      go_wp2_with (at_builtin; (refine wpList_append_ints rfl (.tmp 29) (.tmp 32) 30 rfl w1.heap.size 5 .u8 i0 1 Tryd.underlying30 hi0 hz0 hz1 hz2 (by decide) v6 y2 rfl hown67 w7.heap.size A7 ks.length c7 ks rfl rfl hc7 hl7 (by omega) hsz7 HN7.out ?_; intro v8 w8 hown8 hgr8 _; refine Hid.out ?_))
      have hb8 := hown67.grown_below hgr8 hsz7
      have hbw8 : Below w1.heap.size w1 w8 := hbw7.trans hb8
      have hbx8 := (Boxed.mk g0 g1 g2 g3 g4 g5).below hb8 p0
      have hsz8 := hbw8.size
      obtain ⟨y3, hy3⟩ : ∃ y3, y2 ++ ks = y3 := ⟨_, rfl⟩
      have hyl3 : y3.length ≤ xs.length + 241 := by rw [← hy3, List.length_append]; omega
      rw [hy3] at hown8
      have HY3 := Lib.hid hy3
      clear hy3 g1 g2 g3 g4 g5 hgr8 hl7 hown67 hb8 hbw7
      obtain ⟨j0, j1, j2, j3, j4, j5⟩ := hbx8
      refine Lib.hid ?_
      go_wp2_with (at_builtin; (refine wpList_append_text rfl (.tmp 34) (.tmp 36) 30 9 rfl w1.heap.size 5 i0 Tryd.underlying30 Tryd.underlying9 hi0 hz0 hz1 hz2 v8 y3 rfl hown8 r.val rfl (by omega) hsz8 ?_; intro v9 w9 hown9 hgr9))
      go_ret
      have hfin : y3 ++ ints r.val = xs ++ putR r := by
        rw [HPUT.out, recL_head, HHE.out, ← HY3.out, ← HY2.out, ← HY1.out, ← HKS.out]
        simp
      rw [hfin] at hown9
      exact ⟨v9, rfl, hown9.lower hbw1.size, hbw1.trans ((hbw8.trans (hown8.grown_below hgr9 hsz8)).mono hbw1.size)⟩
    · rw [decide_eq_false hr]
      have HPUT := Lib.hid (putR_wrong hr)
      go_wp2
      go_ret
      exact ⟨v2, rfl, by rw [HPUT.out, List.append_nil]; exact hown3.lower hbw1.size, hbw1.trans (hbw3.mono hbw1.size)⟩
end Go.Proofs.YtiglignfjegilaaDoor
