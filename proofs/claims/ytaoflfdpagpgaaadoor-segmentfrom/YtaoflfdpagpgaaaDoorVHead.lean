/- Contracts of the program's record.length and record.head. -/
import Derived.Test.YtaoflfdpagpgaaaDoorAppendText
import Derived.Test.YtaoflfdpagpgaaaDoorVPut
import Derived.Test.YtaoflfdpagpgaaaDoorVFold
import Derived.Test.YtaoflfdpagpgaaaDoorRecWords
namespace Go.Proofs.YtaoflfdpagpgaaaDoor
open Go.RowKit

theorem vlength_any (s : ByteArray) (w : World) (h : s.size ≤ 1000000000000) : Calls Tryd.prog 33 #[.string s] w (NewBytes w (putL (s.size : Int))) := by
  have HP := Lib.hid (put_nil (s.size : Int) w (by omega) (by omega))
  have hwk : IntKind.u64.wrap (s.size : Int) = (s.size : Int) := by rw [IntKind.wrap_u64]; omega
  go_enter Tryd.func33, Tryd.ntmps33
  go_wp2_with fail
  refine HP.out.mono ?_
  rintro e w1 ⟨v1, rfl, hown1, hb1⟩
  go_wp2
  go_ret
  exact ⟨v1, rfl, hown1, hb1⟩

/-- What stands ahead of a record's key. -/
def headL (r : Rec) : List Int := putL r.off ++ (putL (foldI r.time) ++ (deadI r.dead :: putL r.key.size))
theorem recL_head (r : Rec) : recL r = headL r ++ (ints r.key ++ (putL r.val.size ++ ints r.val)) := by
  simp [recL, bodyL, headL]
theorem headL_length (r : Rec) : (headL r).length ≤ 31 := by
  have h1 := putL_length r.off
  have h2 := putL_length (foldI r.time)
  have h3 := putL_length (r.key.size : Int)
  simp only [headL, List.length_append, List.length_cons]
  omega

set_option maxRecDepth 100000 in
set_option maxHeartbeats 4000000 in
theorem vhead_any (r : Rec) (w : World) (hr : r.right) : Calls Tryd.prog 32 #[recV r] w (NewBytes w (headL r)) := by
  obtain ⟨i0, hi0, hz0, hz1, hz2⟩ := info_parts byte_info
  obtain ⟨r1, r2, r3, r4, r5, r6, r7, r8⟩ := hr
  clear r8
  have hfr := fold_range r.time (by omega) (by omega)
  have hbx := Boxed.new w r 38
  have hw0 : Below w.heap.size w (w.alloc (.cells #[.int .i64 r.off, .int .i64 r.time, .string r.key, .string r.val, .bool r.dead] 38)) := (Below.refl _ _).alloc (Nat.le_refl _) _
  have hs0 : (w.alloc (.cells #[.int .i64 r.off, .int .i64 r.time, .string r.key, .string r.val, .bool r.dead] 38)).heap.size = w.heap.size + 1 := by simp
  have hwo : IntKind.u64.wrap r.off = r.off := by rw [IntKind.wrap_u64]; omega
  have HP1 := Lib.hid (fun W => put_nil r.off W r1 (by omega))
  unfold recV
  go_enter Tryd.func32, Tryd.ntmps32
  obtain ⟨W0, hW0⟩ : ∃ W0, w.alloc (.cells #[.int .i64 r.off, .int .i64 r.time, .string r.key, .string r.val, .bool r.dead] 38) = W0 := ⟨_, rfl⟩
  rw [hW0] at hbx hw0 hs0
  obtain ⟨z0, z1, z2, z3, z4, z5⟩ := hbx
  go_wp2_with fail
  refine (HP1.out W0).mono ?_
  rintro e w1 ⟨v1, rfl, hown1, hb1⟩
  have hbx1 := (Boxed.mk z0 z1 z2 z3 z4 z5).below hb1 z0
  clear z1 z2 z3 z4 z5 HP1 hwo hW0
  have hlen1 := putL_length r.off
  obtain ⟨y1, hy1⟩ : ∃ y1, putL r.off = y1 := ⟨_, rfl⟩
  rw [hy1] at hown1 hlen1
  have HY1 := Lib.hid hy1
  clear hy1
  obtain ⟨ft, hft⟩ : ∃ ft, foldI r.time = ft := ⟨_, rfl⟩
  have hF := fold_any r.time w1 (by omega) (by omega)
  rw [hft] at hF hfr
  have HFT := Lib.hid hft
  have HF := Lib.hid hF
  clear hft hF
  obtain ⟨A1, c1, rfl, hc1, hm1, hl1, hn1⟩ := hown1.parts2
  have HP2 := Lib.hid (put_any A1 y1 c1 ft w1 hl1 hc1 (by omega) hfr.1 hfr.2)
  obtain ⟨p0, p1, p2, p3, p4, p5⟩ := hbx1
  go_wp2_with fail
  refine HF.out.mono ?_
  rintro e w2 ⟨rfl, rfl⟩
  go_wp2_with fail
  refine HP2.out.mono ?_
  rintro e w3 ⟨v3, rfl, hown3, hb3⟩
  have hbx3 := (Boxed.mk p0 p1 p2 p3 p4 p5).below hb3 p0
  have hb13 : Below w.heap.size w w3 := hw0.trans ((hb1.mono (by omega)).trans (hb3.mono (by have := hb1.size; omega)))
  have hlen2 := putL_length ft
  obtain ⟨y2, hy2⟩ : ∃ y2, y1 ++ putL ft = y2 := ⟨_, rfl⟩
  have hyl2 : y2.length ≤ 20 := by rw [← hy2, List.length_append]; omega
  rw [hy2] at hown3
  have HY2 := Lib.hid hy2
  clear hy2 p1 p2 p3 p4 p5 hl1 hown1 HP2 HF hlen1 hlen2
  obtain ⟨q0, q1, q2, q3, q4, q5⟩ := hbx3
  cases hd : r.dead with
  | true =>
    rw [hd] at q5
    have HLEN := Lib.hid (fun W => vlength_any r.key W (by omega))
    go_wp2_with (at_builtin; (refine wpList_append_int1 rfl (.tmp 16) (.tmp 18) 25 rfl w1.heap.size 5 .u8 i0 1 Tryd.underlying25 hi0 hz0 hz1 hz2 (by decide) v3 y2 rfl w3 1 rfl hown3 rfl (by omega) hb3.size ?_; intro v6 w6 hown6 hb6; refine Hid.out ?_))
    have hbx6 := (Boxed.mk q0 q1 q2 q3 q4 (by rw [hd]; exact q5)).below hb6 p0
    clear q1 q2 q3 q4 q5 hown3
    obtain ⟨y3, hy3⟩ : ∃ y3, y2 ++ [1] = y3 := ⟨_, rfl⟩
    have hyl3 : y3.length ≤ 21 := by rw [← hy3, List.length_append]; simp; omega
    rw [hy3] at hown6
    have HY3 := Lib.hid hy3
    clear hy3
    have hd6 := hbx6.c2
    refine Lib.hid ?_
    go_wp2_with fail
    refine (HLEN.out w6).mono ?_
    rintro e w7 ⟨v7, rfl, hown7, hb7⟩
    have hown67 := hown6.below hb7
    have hsz : w1.heap.size ≤ w7.heap.size := by have := hb3.size; have := hb6.size; have := hb7.size; omega
    obtain ⟨A7, c7, rfl, hc7, hm7, hl7, hn7⟩ := hown7.parts2
    have hlen3 := putL_length (r.key.size : Int)
    obtain ⟨ks, hks⟩ : ∃ ks, putL (r.key.size : Int) = ks := ⟨_, rfl⟩
    rw [hks] at hlen3 hc7 hl7 hown7 ⊢
    have HKS := Lib.hid hks
    clear hks hown7
    go_wp2_with (at_builtin; (refine wpList_append_ints rfl (.tmp 20) (.tmp 23) 25 rfl w1.heap.size 5 .u8 i0 1 Tryd.underlying25 hi0 hz0 hz1 hz2 (by decide) v6 y3 rfl hown67 w7.heap.size A7 ks.length c7 ks rfl rfl hc7 hl7 (by omega) hsz hn7 ?_; intro v8 w8 hown8 hgr8 _))
    go_ret
    have hfin : y3 ++ ks = headL r := by
      rw [← HKS.out, ← HY3.out, ← HY2.out, ← HY1.out, ← HFT.out]
      simp [headL, hd, deadI]
    rw [hfin] at hown8
    have hb8 := hown67.grown_below hgr8 hsz
    have hz1' := hb1.size
    exact ⟨v8, rfl, hown8.lower (by omega), hb13.trans ((hb6.mono (by omega)).trans ((hb7.mono (by have := hb13.size; have := hb6.size; omega)).trans (hb8.mono (by omega))))⟩
  | false =>
    rw [hd] at q5
    have HLEN := Lib.hid (fun W => vlength_any r.key W (by omega))
    go_wp2_with (at_builtin; (refine wpList_append_int1 rfl (.tmp 16) (.tmp 18) 25 rfl w1.heap.size 5 .u8 i0 1 Tryd.underlying25 hi0 hz0 hz1 hz2 (by decide) v3 y2 rfl w3 0 rfl hown3 rfl (by omega) hb3.size ?_; intro v6 w6 hown6 hb6; refine Hid.out ?_))
    have hbx6 := (Boxed.mk q0 q1 q2 q3 q4 (by rw [hd]; exact q5)).below hb6 p0
    clear q1 q2 q3 q4 q5 hown3
    obtain ⟨y3, hy3⟩ : ∃ y3, y2 ++ [0] = y3 := ⟨_, rfl⟩
    have hyl3 : y3.length ≤ 21 := by rw [← hy3, List.length_append]; simp; omega
    rw [hy3] at hown6
    have HY3 := Lib.hid hy3
    clear hy3
    have hd6 := hbx6.c2
    refine Lib.hid ?_
    go_wp2_with fail
    refine (HLEN.out w6).mono ?_
    rintro e w7 ⟨v7, rfl, hown7, hb7⟩
    have hown67 := hown6.below hb7
    have hsz : w1.heap.size ≤ w7.heap.size := by have := hb3.size; have := hb6.size; have := hb7.size; omega
    obtain ⟨A7, c7, rfl, hc7, hm7, hl7, hn7⟩ := hown7.parts2
    have hlen3 := putL_length (r.key.size : Int)
    obtain ⟨ks, hks⟩ : ∃ ks, putL (r.key.size : Int) = ks := ⟨_, rfl⟩
    rw [hks] at hlen3 hc7 hl7 hown7 ⊢
    have HKS := Lib.hid hks
    clear hks hown7
    go_wp2_with (at_builtin; (refine wpList_append_ints rfl (.tmp 20) (.tmp 23) 25 rfl w1.heap.size 5 .u8 i0 1 Tryd.underlying25 hi0 hz0 hz1 hz2 (by decide) v6 y3 rfl hown67 w7.heap.size A7 ks.length c7 ks rfl rfl hc7 hl7 (by omega) hsz hn7 ?_; intro v8 w8 hown8 hgr8 _))
    go_ret
    have hfin : y3 ++ ks = headL r := by
      rw [← HKS.out, ← HY3.out, ← HY2.out, ← HY1.out, ← HFT.out]
      simp [headL, hd, deadI]
    rw [hfin] at hown8
    have hb8 := hown67.grown_below hgr8 hsz
    have hz1' := hb1.size
    exact ⟨v8, rfl, hown8.lower (by omega), hb13.trans ((hb6.mono (by omega)).trans ((hb7.mono (by have := hb13.size; have := hb6.size; omega)).trans (hb8.mono (by omega))))⟩
end Go.Proofs.YtaoflfdpagpgaaaDoor
