/- A contract of the document's own PutRecord. -/
import Derived.Test.YtffmfgbjlijpeaaDoorAppendText
import Derived.Test.YtffmfgbjlijpeaaDoorRRight
import Derived.Test.YtffmfgbjlijpeaaDoorR1
import Derived.Test.YtffmfgbjlijpeaaDoorNums
namespace Go.Proofs.YtffmfgbjlijpeaaDoor
open Go.RowKit

set_option maxRecDepth 100000 in
set_option maxHeartbeats 4000000 in
theorem refputrec_any (A : Option Addr) (xs : List Int) (c : Nat) (r : Rec) (w : World) (hl : Lies .u8 w w.heap.size A xs) (hc : xs.length ≤ c) (hA : A = none → c = 0) (hb : xs.length ≤ 274877906944) :
    Calls Tryd.prog 25 #[.slice A xs.length c, recV r] w (NewBytes w (xs ++ putR r)) := by
  obtain ⟨i0, hi0, hz0, hz1, hz2⟩ := info_parts byte_info
  have HA := Lib.hid hA
  clear hA
  have hbx := Boxed.new w r 35
  have hl0 : Lies .u8 (w.alloc (.cells #[.int .i64 r.off, .int .i64 r.time, .string r.key, .string r.val, .bool r.dead] 35)) w.heap.size A xs := hl.alloc (Nat.le_refl _) _
  have hw0 : Below w.heap.size w (w.alloc (.cells #[.int .i64 r.off, .int .i64 r.time, .string r.key, .string r.val, .bool r.dead] 35)) := (Below.refl _ _).alloc (Nat.le_refl _) _
  have hs0 : (w.alloc (.cells #[.int .i64 r.off, .int .i64 r.time, .string r.key, .string r.val, .bool r.dead] 35)).heap.size = w.heap.size + 1 := by simp
  unfold recV
  go_enter Tryd.func25, Tryd.ntmps25
  obtain ⟨W0, hW0⟩ : ∃ W0, w.alloc (.cells #[.int .i64 r.off, .int .i64 r.time, .string r.key, .string r.val, .bool r.dead] 35) = W0 := ⟨_, rfl⟩
  rw [hW0] at hbx hl0 hw0 hs0
  go_wp2_with (at_builtin; (refine wpList_append_ints rfl (.const (.slice none 0 0)) (.tmp 5) 33 rfl w.heap.size 5 .u8 i0 1 Tryd.underlying33 hi0 hz0 hz1 hz2 (by decide) (.slice none 0 0) [] rfl Own.nil w.heap.size A xs.length c xs rfl rfl hc hl0 (by simp; omega) (by omega) HA.out ?_; intro v1 w1 hown1 hgr1 _; rw [List.nil_append] at hown1; have hb1 : Below w.heap.size w w1 := hw0.trans ((Own.nil (k := .u8) (e := 5) (w := W0) (base := w.heap.size)).grown_below hgr1 (by omega)); have hbx1 := hbx.grown hgr1 (show none ≠ some _ by simp); have hs1 := hgr1.size; obtain ⟨p0, p1, p2, p3, p4, p5⟩ := hbx1; clear hgr1 hl hl0 hw0 hbx HA))
  refine (refright_any r w1).mono ?_
  rintro e w2 ⟨rfl, hb2⟩
  by_cases hr : r.right
  · have hput : putR r = recL r := if_pos hr
    rw [decide_eq_true hr]
    have HPUT := Lib.hid hput
    clear hput
    obtain ⟨r1, r2, r3, r4, r5, r6, r7, r8⟩ := hr
    have hfr := fold_range r.time (by omega) (by omega)
    obtain ⟨A1, c1, rfl, hc1, hm1, hl1, hn1⟩ := hown1.parts2
    have hbx2 := (Boxed.mk p0 p1 p2 p3 p4 p5).below hb2 p0
    have hl2 := (hl1.below hb2).more hb2.size
    have hP1 := refput_any A1 xs c1 r.off w2 hl2 hc1 hn1 (by omega) r1 (by omega)
    have HP1 := Lib.hid hP1
    have HR := Lib.hid (show r.right from ⟨r1, r2, r3, r4, r5, r6, r7, r8⟩)
    clear hP1 hn1 p1 p2 p3 p4 p5 r8
    obtain ⟨q0, q1, q2, q3, q4, q5⟩ := hbx2
    have hwo : IntKind.u64.wrap r.off = r.off := by rw [IntKind.wrap_u64]; omega
    go_wp2_with fail
    refine HP1.out.mono ?_
    rintro e w3 ⟨v3, rfl, hown3, hb3⟩
    have hbx3 := (Boxed.mk q0 q1 q2 q3 q4 q5).below hb3 q0
    have hlen1 := putL_length r.off
    obtain ⟨y1, hy1⟩ : ∃ y1, xs ++ putL r.off = y1 := ⟨_, rfl⟩
    have hyl1 : y1.length ≤ xs.length + 10 := by rw [← hy1, List.length_append]; omega
    rw [hy1] at hown3
    have HY1 := Lib.hid hy1
    obtain ⟨A3, c3, rfl, hc3, hm3, hl3, hn3⟩ := hown3.parts2
    have hP2 := fun w4 hl4 => refput_any A3 y1 c3 (foldI r.time) w4 hl4 hc3 hn3 (by omega) hfr.1 hfr.2
    obtain ⟨ft, hft⟩ : ∃ ft, foldI r.time = ft := ⟨_, rfl⟩
    have hF := reffold_any r.time w3 (by omega) (by omega)
    rw [hft] at hP2 hF
    have HFT := Lib.hid hft
    have HP2 := Lib.hid hP2
    have HF := Lib.hid hF
    clear hP2 hn3 q1 q2 q3 q4 q5 hl1 hl2 hown1 hwo hlen1 hy1 hft hF
    obtain ⟨s0, s1, s2, s3, s4, s5⟩ := hbx3
    go_wp2_with fail
    refine HF.out.mono ?_
    rintro e w4 ⟨rfl, rfl⟩
    go_wp2_with fail
    refine (HP2.out w3 hl3).mono ?_
    rintro e w5 ⟨v5, rfl, hown5, hb5⟩
    have hbx5 := (Boxed.mk s0 s1 s2 s3 s4 s5).below hb5 s0
    clear s1 s2 s3 s4 s5 hl3 hown3
    obtain ⟨t0, t1, t2, t3, t4, t5⟩ := hbx5
    have hb15 : Below w.heap.size w w5 := hb1.trans ((hb2.mono (by omega)).trans ((hb3.mono (by have := hb1.size; have := hb2.size; omega)).trans (hb5.mono (by have := hb1.size; have := hb2.size; have := hb3.size; omega))))
    have hg5 := hb15.size
    obtain ⟨y2, hy2⟩ : ∃ y2, y1 ++ putL ft = y2 := ⟨_, rfl⟩
    have hyl2 : y2.length ≤ xs.length + 20 := by have := putL_length ft; rw [← hy2, List.length_append]; omega
    rw [hy2] at hown5
    have HY2 := Lib.hid hy2
    clear hy2
    cases hd : r.dead with
    | true =>
      rw [hd] at t5
      go_wp2_with (at_builtin; (refine wpList_append_int1 rfl (.tmp 23) (.tmp 24) 33 rfl w3.heap.size 5 .u8 i0 1 Tryd.underlying33 hi0 hz0 hz1 hz2 (by decide) v5 y2 rfl w5 1 rfl hown5 rfl (by omega) hb5.size ?_; intro v6 w6 hown6 hb6; refine Hid.out ?_))
      have hbx6 := (Boxed.mk t0 t1 t2 t3 t4 (by rw [hd]; exact t5)).below hb6 s0
      clear t1 t2 t3 t4 t5 hown5
      obtain ⟨y3, hy3⟩ : ∃ y3, y2 ++ [1] = y3 := ⟨_, rfl⟩
      have hyl3 : y3.length ≤ xs.length + 21 := by rw [← hy3, List.length_append]; simp; omega
      rw [hy3] at hown6
      have HY3 := Lib.hid hy3
      clear hy3
      obtain ⟨A6, c6, rfl, hc6, hm6, hl6, hn6⟩ := hown6.parts2
      refine Lib.hid ?_
      have HPk := Lib.hid (refput_any A6 y3 c6 (r.key.size : Int) w6.drew hl6 hc6 hn6 (by omega) (by omega) (by omega))
      have hHeld : w6.drew.cell? ⟨w.heap.size, 2, none⟩ = some (.string r.key) := hbx6.c2
      have hwk : IntKind.u64.wrap (r.key.size : Int) = (r.key.size : Int) := by rw [IntKind.wrap_u64]; omega
      go_wp2_with fail
      refine wp_region_held_drew (S := fun W => W.cell? ⟨w.heap.size, 2, none⟩ = some (.string r.key)) (by kernel_rfl) hHeld (fun hHeld => ?_)
      refine held_take 0 29 (v := ?v1) rfl rfl (by kernel_rfl) (by kernel_rfl) (by kernel_rfl) (fun _ _ _ h => h) hHeld (Or.inl ⟨by rfl, ?y1⟩) ?r1
      case y1 => intro w hSw; (try dsimp only at hSw); go_simp; (try with_reducible rfl)
      simp only [List.setIfInBounds_toArray, List.set_cons_zero, List.set_cons_succ]
      refine held_take 1 30 (v := ?v2) rfl rfl (by kernel_rfl) (by kernel_rfl) (by kernel_rfl) (fun _ _ _ h => h) hHeld (Or.inl ⟨by rfl, ?y2⟩) ?r2
      case y2 => intro w hSw; (try dsimp only at hSw); go_simp; (try with_reducible rfl)
      simp only [List.setIfInBounds_toArray, List.set_cons_zero, List.set_cons_succ]
      refine held_take 2 31 (v := ?v3) rfl rfl (by kernel_rfl) (by kernel_rfl) (by kernel_rfl) (fun _ _ _ h => h) hHeld (Or.inl ⟨by rfl, ?y3⟩) ?r3
      case y3 => intro w hSw; (try dsimp only at hSw); go_simp; (try with_reducible rfl)
      simp only [List.setIfInBounds_toArray, List.set_cons_zero, List.set_cons_succ]
      refine held_take 3 32 (v := ?v4) rfl rfl (by kernel_rfl) (by kernel_rfl) (by kernel_rfl) (fun _ _ _ h => h) hHeld (Or.inl ⟨by rfl, ?y4⟩) ?r4
      case y4 => intro w hSw; (try dsimp only at hSw); go_simp; (try with_reducible rfl)
      simp only [List.setIfInBounds_toArray, List.set_cons_zero, List.set_cons_succ]
      refine held_take 4 33 (v := ?v5) rfl rfl (by kernel_rfl) (by kernel_rfl) (by kernel_rfl) (fun _ _ _ h => h) hHeld (Or.inl ⟨by rfl, ?y5⟩) ?r5
      case y5 => intro w hSw; (try dsimp only at hSw); go_simp; (try with_reducible rfl)
      simp only [List.setIfInBounds_toArray, List.set_cons_zero, List.set_cons_succ]
      refine held_take 6 35 (v := ?v6) rfl rfl (by kernel_rfl) (by kernel_rfl) (by kernel_rfl) (fun _ _ _ h => h) hHeld (Or.inl ⟨by rfl, ?y6⟩) ?r6
      case y6 => intro w hSw; (try dsimp only at hSw); go_simp; (try with_reducible rfl)
      simp only [List.setIfInBounds_toArray, List.set_cons_zero, List.set_cons_succ]
      refine held_take 7 36 (v := ?v7) rfl rfl (by kernel_rfl) (by kernel_rfl) (by kernel_rfl) (fun _ _ _ h => h) hHeld (Or.inl ⟨by rfl, ?y7⟩) ?r7
      case y7 => intro w hSw; (try dsimp only at hSw); go_simp; (try with_reducible rfl)
      simp only [List.setIfInBounds_toArray, List.set_cons_zero, List.set_cons_succ]
      refine wpAnyH_ready (rs := [5]) (by kernel_rfl) (by simp) ?_
      refine AllReadyH.cons rfl (fun K hK => ?_) AllReadyH.nil
      go_simp
      refine HPk.out.mono ?_
      rintro e w7 ⟨v7, rfl, hown7, hbd7⟩
      have hb7 : Below w6.heap.size w6 w7 := below_undrew hbd7
      clear hbd7 HPk
      have hbx7 := hbx6.below hb7 hbx6.lt
      refine hK.out _ _ hbx7.c2 (fun _ => ?_)
      clear hK K hHeld
      refine wpAnyH_ready (rs := [8]) (by kernel_rfl) (by simp) ?_
      refine AllReadyH.cons (o := ⟨some 37, _, _, _, _, _⟩) rfl (fun K hK => ?_) AllReadyH.nil
      rw [if_pos (by rfl)]
      obtain ⟨y4, hy4⟩ : ∃ y4, y3 ++ putL (r.key.size : Int) = y4 := ⟨_, rfl⟩
      have hyl4 : y4.length ≤ xs.length + 31 := by have := putL_length (r.key.size : Int); rw [← hy4, List.length_append]; omega
      rw [hy4] at hown7
      have HY4 := Lib.hid hy4
      clear hy4
      refine wp_append_text (.tmp 34) (.tmp 36) 33 9 rfl w6.heap.size 5 i0 Tryd.underlying33 Tryd.underlying9 hi0 hz0 hz1 hz2 v7 y4 rfl hown7 r.key rfl (by omega) hb7.size ?_
      intro v8 w8 hown8 hgr8
      have hb8 := hb7.trans (hown7.grown_below hgr8 hb7.size)
      have hbx8 := hbx6.below hb8 hbx6.lt
      refine hK.out _ _ hbx8.c2 (fun _ => ?_)
      clear hK K
      have hHeld := hbx8.c2
      simp only [Act.put, List.setIfInBounds_toArray, List.set_cons_zero, List.set_cons_succ]
      refine held_take 9 0 (v := ?v8) rfl rfl (by kernel_rfl) (by kernel_rfl) (by kernel_rfl) (fun _ _ _ h => h) hHeld (Or.inl ⟨by rfl, ?y8⟩) ?r8
      case y8 => intro w hSw; (try dsimp only at hSw); go_simp; (try with_reducible rfl)
      simp only [List.setIfInBounds_toArray, List.set_cons_zero]
      refine wpAnyH_done (by kernel_rfl) ?_ _
      clear hHeld hown7 hgr8 hb7 hbx7 hwk
      obtain ⟨y5, hy5⟩ : ∃ y5, y4 ++ ints r.key = y5 := ⟨_, rfl⟩
      have hyl5 : y5.length ≤ xs.length + 231 := by have := ints_length r.key; rw [← hy5, List.length_append]; omega
      rw [hy5] at hown8
      have HY5 := Lib.hid hy5
      clear hy5
      obtain ⟨A8, c8, rfl, hc8, hm8, hl8, hn8⟩ := hown8.parts2
      have HPk := Lib.hid (refput_any A8 y5 c8 (r.val.size : Int) w8.drew hl8 hc8 hn8 (by omega) (by omega) (by omega))
      have hHeld : w8.drew.cell? ⟨w.heap.size, 3, none⟩ = some (.string r.val) := hbx8.c3
      have hwk : IntKind.u64.wrap (r.val.size : Int) = (r.val.size : Int) := by rw [IntKind.wrap_u64]; omega
      go_wp2_with fail
      refine wp_region_held_drew (S := fun W => W.cell? ⟨w.heap.size, 3, none⟩ = some (.string r.val)) (by kernel_rfl) hHeld (fun hHeld => ?_)
      refine held_take 0 38 (v := ?v9) rfl rfl (by kernel_rfl) (by kernel_rfl) (by kernel_rfl) (fun _ _ _ h => h) hHeld (Or.inl ⟨by rfl, ?y9⟩) ?r9
      case y9 => intro w hSw; (try dsimp only at hSw); go_simp; (try with_reducible rfl)
      simp only [List.setIfInBounds_toArray, List.set_cons_zero, List.set_cons_succ]
      refine held_take 1 39 (v := ?v10) rfl rfl (by kernel_rfl) (by kernel_rfl) (by kernel_rfl) (fun _ _ _ h => h) hHeld (Or.inl ⟨by rfl, ?y10⟩) ?r10
      case y10 => intro w hSw; (try dsimp only at hSw); go_simp; (try with_reducible rfl)
      simp only [List.setIfInBounds_toArray, List.set_cons_zero, List.set_cons_succ]
      refine held_take 2 40 (v := ?v11) rfl rfl (by kernel_rfl) (by kernel_rfl) (by kernel_rfl) (fun _ _ _ h => h) hHeld (Or.inl ⟨by rfl, ?y11⟩) ?r11
      case y11 => intro w hSw; (try dsimp only at hSw); go_simp; (try with_reducible rfl)
      simp only [List.setIfInBounds_toArray, List.set_cons_zero, List.set_cons_succ]
      refine held_take 3 41 (v := ?v12) rfl rfl (by kernel_rfl) (by kernel_rfl) (by kernel_rfl) (fun _ _ _ h => h) hHeld (Or.inl ⟨by rfl, ?y12⟩) ?r12
      case y12 => intro w hSw; (try dsimp only at hSw); go_simp; (try with_reducible rfl)
      simp only [List.setIfInBounds_toArray, List.set_cons_zero, List.set_cons_succ]
      refine held_take 4 42 (v := ?v13) rfl rfl (by kernel_rfl) (by kernel_rfl) (by kernel_rfl) (fun _ _ _ h => h) hHeld (Or.inl ⟨by rfl, ?y13⟩) ?r13
      case y13 => intro w hSw; (try dsimp only at hSw); go_simp; (try with_reducible rfl)
      simp only [List.setIfInBounds_toArray, List.set_cons_zero, List.set_cons_succ]
      refine held_take 6 44 (v := ?v14) rfl rfl (by kernel_rfl) (by kernel_rfl) (by kernel_rfl) (fun _ _ _ h => h) hHeld (Or.inl ⟨by rfl, ?y14⟩) ?r14
      case y14 => intro w hSw; (try dsimp only at hSw); go_simp; (try with_reducible rfl)
      simp only [List.setIfInBounds_toArray, List.set_cons_zero, List.set_cons_succ]
      refine held_take 7 45 (v := ?v15) rfl rfl (by kernel_rfl) (by kernel_rfl) (by kernel_rfl) (fun _ _ _ h => h) hHeld (Or.inl ⟨by rfl, ?y15⟩) ?r15
      case y15 => intro w hSw; (try dsimp only at hSw); go_simp; (try with_reducible rfl)
      simp only [List.setIfInBounds_toArray, List.set_cons_zero, List.set_cons_succ]
      refine wpAnyH_ready (rs := [5]) (by kernel_rfl) (by simp) ?_
      refine AllReadyH.cons rfl (fun K hK => ?_) AllReadyH.nil
      go_simp
      refine HPk.out.mono ?_
      rintro e w9 ⟨v9, rfl, hown9, hbd9⟩
      have hb9 : Below w8.heap.size w8 w9 := below_undrew hbd9
      clear hbd9 HPk
      have hbx9 := hbx8.below hb9 hbx8.lt
      refine hK.out _ _ hbx9.c3 (fun _ => ?_)
      clear hK K hHeld
      refine wpAnyH_ready (rs := [8]) (by kernel_rfl) (by simp) ?_
      refine AllReadyH.cons (o := ⟨some 46, _, _, _, _, _⟩) rfl (fun K hK => ?_) AllReadyH.nil
      rw [if_pos (by rfl)]
      obtain ⟨y6, hy6⟩ : ∃ y6, y5 ++ putL (r.val.size : Int) = y6 := ⟨_, rfl⟩
      have hyl6 : y6.length ≤ xs.length + 241 := by have := putL_length (r.val.size : Int); rw [← hy6, List.length_append]; omega
      rw [hy6] at hown9
      have HY6 := Lib.hid hy6
      clear hy6
      refine wp_append_text (.tmp 43) (.tmp 45) 33 9 rfl w8.heap.size 5 i0 Tryd.underlying33 Tryd.underlying9 hi0 hz0 hz1 hz2 v9 y6 rfl hown9 r.val rfl (by omega) hb9.size ?_
      intro v10 w10 hown10 hgr10
      have hb10 := hb9.trans (hown9.grown_below hgr10 hb9.size)
      have hbx10 := hbx8.below hb10 hbx8.lt
      refine hK.out _ _ hbx10.c3 (fun _ => ?_)
      clear hK K
      have hHeld := hbx10.c3
      simp only [Act.put, List.setIfInBounds_toArray, List.set_cons_zero, List.set_cons_succ]
      refine held_take 9 4 (v := ?v16) rfl rfl (by kernel_rfl) (by kernel_rfl) (by kernel_rfl) (fun _ _ _ h => h) hHeld (Or.inl ⟨by rfl, ?y16⟩) ?r16
      case y16 => intro w hSw; (try dsimp only at hSw); go_simp; (try with_reducible rfl)
      simp only [List.setIfInBounds_toArray, List.set_cons_zero, List.set_cons_succ]
      refine wpAnyH_done (by kernel_rfl) ?_ _
      clear hHeld hown9 hgr10 hb9 hbx9 hwk
      have hfin : y6 ++ ints r.val = xs ++ putR r := by
        rw [HPUT.out, ← HY6.out, ← HY5.out, ← HY4.out, ← HY3.out, ← HY2.out, ← HY1.out, ← HFT.out]
        simp [recL, bodyL, hd, deadI]
      rw [hfin] at hown10
      have HFIN := Lib.hid hown10
      have hz5 := hb15.size
      have hz6 := hb6.size
      have hz8 := hb8.size
      have hbz : Below w.heap.size w w10 := hb15.trans ((hb6.mono (by omega)).trans ((hb8.mono (by omega)).trans (hb10.mono (by omega))))
      have HBZ := Lib.hid hbz
      have HB8 := Lib.hid (show w.heap.size ≤ w8.heap.size by omega)
      clear hfin hown10 hbz hz5 hz6 hz8 hb10 hb8 hb6 hb5 hb3 hb2 hb1 hb15 hbx6 hbx8 hbx10
      go_wp2
      go_ret
      exact ⟨v10, rfl, HFIN.out.lower HB8.out, HBZ.out⟩
    | false =>
      rw [hd] at t5
      go_wp2_with (at_builtin; (refine wpList_append_int1 rfl (.tmp 26) (.tmp 27) 33 rfl w3.heap.size 5 .u8 i0 1 Tryd.underlying33 hi0 hz0 hz1 hz2 (by decide) v5 y2 rfl w5 0 rfl hown5 rfl (by omega) hb5.size ?_; intro v6 w6 hown6 hb6; refine Hid.out ?_))
      have hbx6 := (Boxed.mk t0 t1 t2 t3 t4 (by rw [hd]; exact t5)).below hb6 s0
      clear t1 t2 t3 t4 t5 hown5
      obtain ⟨y3, hy3⟩ : ∃ y3, y2 ++ [0] = y3 := ⟨_, rfl⟩
      have hyl3 : y3.length ≤ xs.length + 21 := by rw [← hy3, List.length_append]; simp; omega
      rw [hy3] at hown6
      have HY3 := Lib.hid hy3
      clear hy3
      obtain ⟨A6, c6, rfl, hc6, hm6, hl6, hn6⟩ := hown6.parts2
      refine Lib.hid ?_
      have HPk := Lib.hid (refput_any A6 y3 c6 (r.key.size : Int) w6.drew hl6 hc6 hn6 (by omega) (by omega) (by omega))
      have hHeld : w6.drew.cell? ⟨w.heap.size, 2, none⟩ = some (.string r.key) := hbx6.c2
      have hwk : IntKind.u64.wrap (r.key.size : Int) = (r.key.size : Int) := by rw [IntKind.wrap_u64]; omega
      go_wp2_with fail
      refine wp_region_held_drew (S := fun W => W.cell? ⟨w.heap.size, 2, none⟩ = some (.string r.key)) (by kernel_rfl) hHeld (fun hHeld => ?_)
      refine held_take 0 29 (v := ?v17) rfl rfl (by kernel_rfl) (by kernel_rfl) (by kernel_rfl) (fun _ _ _ h => h) hHeld (Or.inl ⟨by rfl, ?y17⟩) ?r17
      case y17 => intro w hSw; (try dsimp only at hSw); go_simp; (try with_reducible rfl)
      simp only [List.setIfInBounds_toArray, List.set_cons_zero, List.set_cons_succ]
      refine held_take 1 30 (v := ?v18) rfl rfl (by kernel_rfl) (by kernel_rfl) (by kernel_rfl) (fun _ _ _ h => h) hHeld (Or.inl ⟨by rfl, ?y18⟩) ?r18
      case y18 => intro w hSw; (try dsimp only at hSw); go_simp; (try with_reducible rfl)
      simp only [List.setIfInBounds_toArray, List.set_cons_zero, List.set_cons_succ]
      refine held_take 2 31 (v := ?v19) rfl rfl (by kernel_rfl) (by kernel_rfl) (by kernel_rfl) (fun _ _ _ h => h) hHeld (Or.inl ⟨by rfl, ?y19⟩) ?r19
      case y19 => intro w hSw; (try dsimp only at hSw); go_simp; (try with_reducible rfl)
      simp only [List.setIfInBounds_toArray, List.set_cons_zero, List.set_cons_succ]
      refine held_take 3 32 (v := ?v20) rfl rfl (by kernel_rfl) (by kernel_rfl) (by kernel_rfl) (fun _ _ _ h => h) hHeld (Or.inl ⟨by rfl, ?y20⟩) ?r20
      case y20 => intro w hSw; (try dsimp only at hSw); go_simp; (try with_reducible rfl)
      simp only [List.setIfInBounds_toArray, List.set_cons_zero, List.set_cons_succ]
      refine held_take 4 33 (v := ?v21) rfl rfl (by kernel_rfl) (by kernel_rfl) (by kernel_rfl) (fun _ _ _ h => h) hHeld (Or.inl ⟨by rfl, ?y21⟩) ?r21
      case y21 => intro w hSw; (try dsimp only at hSw); go_simp; (try with_reducible rfl)
      simp only [List.setIfInBounds_toArray, List.set_cons_zero, List.set_cons_succ]
      refine held_take 6 35 (v := ?v22) rfl rfl (by kernel_rfl) (by kernel_rfl) (by kernel_rfl) (fun _ _ _ h => h) hHeld (Or.inl ⟨by rfl, ?y22⟩) ?r22
      case y22 => intro w hSw; (try dsimp only at hSw); go_simp; (try with_reducible rfl)
      simp only [List.setIfInBounds_toArray, List.set_cons_zero, List.set_cons_succ]
      refine held_take 7 36 (v := ?v23) rfl rfl (by kernel_rfl) (by kernel_rfl) (by kernel_rfl) (fun _ _ _ h => h) hHeld (Or.inl ⟨by rfl, ?y23⟩) ?r23
      case y23 => intro w hSw; (try dsimp only at hSw); go_simp; (try with_reducible rfl)
      simp only [List.setIfInBounds_toArray, List.set_cons_zero, List.set_cons_succ]
      refine wpAnyH_ready (rs := [5]) (by kernel_rfl) (by simp) ?_
      refine AllReadyH.cons rfl (fun K hK => ?_) AllReadyH.nil
      go_simp
      refine HPk.out.mono ?_
      rintro e w7 ⟨v7, rfl, hown7, hbd7⟩
      have hb7 : Below w6.heap.size w6 w7 := below_undrew hbd7
      clear hbd7 HPk
      have hbx7 := hbx6.below hb7 hbx6.lt
      refine hK.out _ _ hbx7.c2 (fun _ => ?_)
      clear hK K hHeld
      refine wpAnyH_ready (rs := [8]) (by kernel_rfl) (by simp) ?_
      refine AllReadyH.cons (o := ⟨some 37, _, _, _, _, _⟩) rfl (fun K hK => ?_) AllReadyH.nil
      rw [if_pos (by rfl)]
      obtain ⟨y4, hy4⟩ : ∃ y4, y3 ++ putL (r.key.size : Int) = y4 := ⟨_, rfl⟩
      have hyl4 : y4.length ≤ xs.length + 31 := by have := putL_length (r.key.size : Int); rw [← hy4, List.length_append]; omega
      rw [hy4] at hown7
      have HY4 := Lib.hid hy4
      clear hy4
      refine wp_append_text (.tmp 34) (.tmp 36) 33 9 rfl w6.heap.size 5 i0 Tryd.underlying33 Tryd.underlying9 hi0 hz0 hz1 hz2 v7 y4 rfl hown7 r.key rfl (by omega) hb7.size ?_
      intro v8 w8 hown8 hgr8
      have hb8 := hb7.trans (hown7.grown_below hgr8 hb7.size)
      have hbx8 := hbx6.below hb8 hbx6.lt
      refine hK.out _ _ hbx8.c2 (fun _ => ?_)
      clear hK K
      have hHeld := hbx8.c2
      simp only [Act.put, List.setIfInBounds_toArray, List.set_cons_zero, List.set_cons_succ]
      refine held_take 9 0 (v := ?v24) rfl rfl (by kernel_rfl) (by kernel_rfl) (by kernel_rfl) (fun _ _ _ h => h) hHeld (Or.inl ⟨by rfl, ?y24⟩) ?r24
      case y24 => intro w hSw; (try dsimp only at hSw); go_simp; (try with_reducible rfl)
      simp only [List.setIfInBounds_toArray, List.set_cons_zero]
      refine wpAnyH_done (by kernel_rfl) ?_ _
      clear hHeld hown7 hgr8 hb7 hbx7 hwk
      obtain ⟨y5, hy5⟩ : ∃ y5, y4 ++ ints r.key = y5 := ⟨_, rfl⟩
      have hyl5 : y5.length ≤ xs.length + 231 := by have := ints_length r.key; rw [← hy5, List.length_append]; omega
      rw [hy5] at hown8
      have HY5 := Lib.hid hy5
      clear hy5
      obtain ⟨A8, c8, rfl, hc8, hm8, hl8, hn8⟩ := hown8.parts2
      have HPk := Lib.hid (refput_any A8 y5 c8 (r.val.size : Int) w8.drew hl8 hc8 hn8 (by omega) (by omega) (by omega))
      have hHeld : w8.drew.cell? ⟨w.heap.size, 3, none⟩ = some (.string r.val) := hbx8.c3
      have hwk : IntKind.u64.wrap (r.val.size : Int) = (r.val.size : Int) := by rw [IntKind.wrap_u64]; omega
      go_wp2_with fail
      refine wp_region_held_drew (S := fun W => W.cell? ⟨w.heap.size, 3, none⟩ = some (.string r.val)) (by kernel_rfl) hHeld (fun hHeld => ?_)
      refine held_take 0 38 (v := ?v25) rfl rfl (by kernel_rfl) (by kernel_rfl) (by kernel_rfl) (fun _ _ _ h => h) hHeld (Or.inl ⟨by rfl, ?y25⟩) ?r25
      case y25 => intro w hSw; (try dsimp only at hSw); go_simp; (try with_reducible rfl)
      simp only [List.setIfInBounds_toArray, List.set_cons_zero, List.set_cons_succ]
      refine held_take 1 39 (v := ?v26) rfl rfl (by kernel_rfl) (by kernel_rfl) (by kernel_rfl) (fun _ _ _ h => h) hHeld (Or.inl ⟨by rfl, ?y26⟩) ?r26
      case y26 => intro w hSw; (try dsimp only at hSw); go_simp; (try with_reducible rfl)
      simp only [List.setIfInBounds_toArray, List.set_cons_zero, List.set_cons_succ]
      refine held_take 2 40 (v := ?v27) rfl rfl (by kernel_rfl) (by kernel_rfl) (by kernel_rfl) (fun _ _ _ h => h) hHeld (Or.inl ⟨by rfl, ?y27⟩) ?r27
      case y27 => intro w hSw; (try dsimp only at hSw); go_simp; (try with_reducible rfl)
      simp only [List.setIfInBounds_toArray, List.set_cons_zero, List.set_cons_succ]
      refine held_take 3 41 (v := ?v28) rfl rfl (by kernel_rfl) (by kernel_rfl) (by kernel_rfl) (fun _ _ _ h => h) hHeld (Or.inl ⟨by rfl, ?y28⟩) ?r28
      case y28 => intro w hSw; (try dsimp only at hSw); go_simp; (try with_reducible rfl)
      simp only [List.setIfInBounds_toArray, List.set_cons_zero, List.set_cons_succ]
      refine held_take 4 42 (v := ?v29) rfl rfl (by kernel_rfl) (by kernel_rfl) (by kernel_rfl) (fun _ _ _ h => h) hHeld (Or.inl ⟨by rfl, ?y29⟩) ?r29
      case y29 => intro w hSw; (try dsimp only at hSw); go_simp; (try with_reducible rfl)
      simp only [List.setIfInBounds_toArray, List.set_cons_zero, List.set_cons_succ]
      refine held_take 6 44 (v := ?v30) rfl rfl (by kernel_rfl) (by kernel_rfl) (by kernel_rfl) (fun _ _ _ h => h) hHeld (Or.inl ⟨by rfl, ?y30⟩) ?r30
      case y30 => intro w hSw; (try dsimp only at hSw); go_simp; (try with_reducible rfl)
      simp only [List.setIfInBounds_toArray, List.set_cons_zero, List.set_cons_succ]
      refine held_take 7 45 (v := ?v31) rfl rfl (by kernel_rfl) (by kernel_rfl) (by kernel_rfl) (fun _ _ _ h => h) hHeld (Or.inl ⟨by rfl, ?y31⟩) ?r31
      case y31 => intro w hSw; (try dsimp only at hSw); go_simp; (try with_reducible rfl)
      simp only [List.setIfInBounds_toArray, List.set_cons_zero, List.set_cons_succ]
      refine wpAnyH_ready (rs := [5]) (by kernel_rfl) (by simp) ?_
      refine AllReadyH.cons rfl (fun K hK => ?_) AllReadyH.nil
      go_simp
      refine HPk.out.mono ?_
      rintro e w9 ⟨v9, rfl, hown9, hbd9⟩
      have hb9 : Below w8.heap.size w8 w9 := below_undrew hbd9
      clear hbd9 HPk
      have hbx9 := hbx8.below hb9 hbx8.lt
      refine hK.out _ _ hbx9.c3 (fun _ => ?_)
      clear hK K hHeld
      refine wpAnyH_ready (rs := [8]) (by kernel_rfl) (by simp) ?_
      refine AllReadyH.cons (o := ⟨some 46, _, _, _, _, _⟩) rfl (fun K hK => ?_) AllReadyH.nil
      rw [if_pos (by rfl)]
      obtain ⟨y6, hy6⟩ : ∃ y6, y5 ++ putL (r.val.size : Int) = y6 := ⟨_, rfl⟩
      have hyl6 : y6.length ≤ xs.length + 241 := by have := putL_length (r.val.size : Int); rw [← hy6, List.length_append]; omega
      rw [hy6] at hown9
      have HY6 := Lib.hid hy6
      clear hy6
      refine wp_append_text (.tmp 43) (.tmp 45) 33 9 rfl w8.heap.size 5 i0 Tryd.underlying33 Tryd.underlying9 hi0 hz0 hz1 hz2 v9 y6 rfl hown9 r.val rfl (by omega) hb9.size ?_
      intro v10 w10 hown10 hgr10
      have hb10 := hb9.trans (hown9.grown_below hgr10 hb9.size)
      have hbx10 := hbx8.below hb10 hbx8.lt
      refine hK.out _ _ hbx10.c3 (fun _ => ?_)
      clear hK K
      have hHeld := hbx10.c3
      simp only [Act.put, List.setIfInBounds_toArray, List.set_cons_zero, List.set_cons_succ]
      refine held_take 9 4 (v := ?v32) rfl rfl (by kernel_rfl) (by kernel_rfl) (by kernel_rfl) (fun _ _ _ h => h) hHeld (Or.inl ⟨by rfl, ?y32⟩) ?r32
      case y32 => intro w hSw; (try dsimp only at hSw); go_simp; (try with_reducible rfl)
      simp only [List.setIfInBounds_toArray, List.set_cons_zero, List.set_cons_succ]
      refine wpAnyH_done (by kernel_rfl) ?_ _
      clear hHeld hown9 hgr10 hb9 hbx9 hwk
      have hfin : y6 ++ ints r.val = xs ++ putR r := by
        rw [HPUT.out, ← HY6.out, ← HY5.out, ← HY4.out, ← HY3.out, ← HY2.out, ← HY1.out, ← HFT.out]
        simp [recL, bodyL, hd, deadI]
      rw [hfin] at hown10
      have HFIN := Lib.hid hown10
      have hz5 := hb15.size
      have hz6 := hb6.size
      have hz8 := hb8.size
      have hbz : Below w.heap.size w w10 := hb15.trans ((hb6.mono (by omega)).trans ((hb8.mono (by omega)).trans (hb10.mono (by omega))))
      have HBZ := Lib.hid hbz
      have HB8 := Lib.hid (show w.heap.size ≤ w8.heap.size by omega)
      clear hfin hown10 hbz hz5 hz6 hz8 hb10 hb8 hb6 hb5 hb3 hb2 hb1 hb15 hbx6 hbx8 hbx10
      go_wp2
      go_ret
      exact ⟨v10, rfl, HFIN.out.lower HB8.out, HBZ.out⟩
  · have hput : putR r = [] := if_neg hr
    rw [decide_eq_false hr]
    have HPUT := Lib.hid hput
    clear hput
    go_wp2
    go_ret
    exact ⟨v1, rfl, by rw [HPUT.out, List.append_nil]; exact hown1.below hb2, hb1.trans (hb2.mono (by omega))⟩
end Go.Proofs.YtffmfgbjlijpeaaDoor
