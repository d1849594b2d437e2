/- A contract of the document's own Append. -/
import Derived.Test.YtkohjkjjkkkpoaaDoorRDSync
import Derived.Test.YtkohjkjjkkkpoaaDoorVDisk
namespace Go.Proofs.YtkohjkjjkkkpoaaDoor
open Go.RowKit

section
variable {base : Nat} {S : Nat → Prop} {w : World} {p : Nat} {room : Int} {fs : List FileV} {w1 : World}
set_option maxHeartbeats 800000 in
theorem rappend_bad (hR : RDisk base S w p room fs) (n : ByteArray) (A : Option Addr) (ys : List Int) (c : Nat) (hn : n.size ≤ maxLen) (hv : validS n = false) :
    Calls Tryd.prog 29 #[.pointer (some ⟨p, 0, none⟩), .string n, .slice A ys.length c] w (RDoes base S p room (appendM room (filesOf fs) n ys) w) := by
  have hc := refvalid_any n w hn
  rw [hv] at hc
  have e1 : appendM room (filesOf fs) n ys = (filesOf fs, 6) := by unfold appendM; rw [if_pos hv]
  rw [e1]
  have HC := Lib.hid hc
  have HR := Lib.hid hR
  clear hc hv hR hn e1
  go_enter Tryd.func29, Tryd.ntmps29
  go_wp2_with fail
  refine HC.out.mono ?_
  rintro e w1 ⟨rfl, rfl⟩
  go_wp2
  go_ret
  exact ⟨rfl, fs, rfl, RLeft.of_below HR.out (Below.refl _ _)⟩
set_option maxHeartbeats 800000 in
theorem rappend_full (hR : RDisk base S w p room fs) (n : ByteArray) (A : Option Addr) (ys : List Int) (c : Nat) (hn : n.size ≤ maxLen) (hv : validS n = true) (hr0 : 0 ≤ room) (hr1 : room ≤ 9223372036854775807) (hu : usedM (filesOf fs) ≤ 549755813888) (hfull : room - (usedM (filesOf fs) : Int) < (ys.length : Int)) :
    Calls Tryd.prog 29 #[.pointer (some ⟨p, 0, none⟩), .string n, .slice A ys.length c] w (RDoes base S p room (appendM room (filesOf fs) n ys) w) := by
  have hc := refvalid_any n w hn
  rw [hv] at hc
  have e1 : appendM room (filesOf fs) n ys = (filesOf fs, 7) := by unfold appendM; rw [if_neg (by rw [hv]; simp), if_pos hfull]
  rw [e1]
  have HC := Lib.hid hc
  have HR := Lib.hid hR
  have HU := Lib.hid (fun m => (rused_any base S (w.drewN m) p room fs (hR.drewN m) (by omega)).mono fun e w' h => (⟨h.1, h.2.symm⟩ : e = .returned (.int .i64 ((usedM (filesOf fs) : Nat) : Int)) ∧ w' = w.drewN m))
  obtain ⟨_, _, c0, _⟩ := hR.cells
  obtain ⟨U, hU⟩ : ∃ U, usedM (filesOf fs) = U := ⟨_, rfl⟩
  rw [hU] at HU hu hfull
  have hwr2 : IntKind.i64.wrap (room - (U : Int)) = room - (U : Int) := by rw [IntKind.wrap_i64]; omega
  clear hc hv hR hn e1 hU
  go_enter Tryd.func29, Tryd.ntmps29
  go_wp2_with fail
  refine HC.out.mono ?_
  rintro e w1 ⟨rfl, rfl⟩
  go_wp2_with fail
  go_quiet (first | (go_at_call 37; refine Calls.quiet_of_same (HU.out _)))
  go_wp2
  go_ret
  exact ⟨rfl, fs, rfl, RLeft.of_below HR.out (below_drewN (Below.refl _ _) _)⟩
theorem appendM_fit {n : ByteArray} {ys : List Int} (hv : validS n = true) (hfull : ¬ room - (usedM (filesOf fs) : Int) < (ys.length : Int)) :
    appendM room (filesOf fs) n ys = (layF (filesOf fs) ⟨(ofName (filesOf fs) n).name, (ofName (filesOf fs) n).b ++ ys, (ofName (filesOf fs) n).loose + ys.length⟩, 0) := by
  unfold appendM
  rw [if_neg (by rw [hv]; simp), if_neg hfull]
/-- The box of a file, behind an append and the two stores into it. -/
theorem box_fin (hb1 : Below w.heap.size w w1) (nm : ByteArray) (bv0 : Value) (lo0 : Int) (v' : Value) (w2 : World) (xs : List Int) (hg : (w1.alloc (.cells #[.string nm, bv0, .int .i64 lo0] 83)).grownBy w2 none) (ho : Own .u8 5 w2 w.heap.size v' xs) (lo1 : Int) :
    (w2.cell? ⟨w1.heap.size, 0, none⟩ = some (.string nm) ∧ w2.cell? ⟨w1.heap.size, 1, none⟩ = some bv0 ∧ w2.cell? ⟨w1.heap.size, 2, none⟩ = some (.int .i64 lo0) ∧ w2.frozen? ⟨w1.heap.size, 1, none⟩ = false ∧ w2.frozen? ⟨w1.heap.size, 2, none⟩ = false) ∧
    Below w.heap.size w ((w2.setCell ⟨w1.heap.size, 1, none⟩ v').setCell ⟨w1.heap.size, 2, none⟩ (.int .i64 lo1)) ∧
    SlIn (Grow S w ((w2.setCell ⟨w1.heap.size, 1, none⟩ v').setCell ⟨w1.heap.size, 2, none⟩ (.int .i64 lo1))) ((w2.setCell ⟨w1.heap.size, 1, none⟩ v').setCell ⟨w1.heap.size, 2, none⟩ (.int .i64 lo1)) v' xs := by
  have hs := hb1.size
  have e0 : (w1.alloc (.cells #[.string nm, bv0, .int .i64 lo0] 83)).heap[w1.heap.size]? = some (.cells #[.string nm, bv0, .int .i64 lo0] 83 (0, 0)) := by
    show (w1.heap.push _)[w1.heap.size]? = _
    simp
  have e2 : w2.heap[w1.heap.size]? = some (.cells #[.string nm, bv0, .int .i64 lo0] 83 (0, 0)) := by rw [hg.block _ (by simp) (by simp)]; exact e0
  have hb2 : Below w.heap.size w w2 := (hb1.alloc hs _).grown hg (by simp; omega) (by simp)
  have hb5 : Below w.heap.size w ((w2.setCell ⟨w1.heap.size, 1, none⟩ v').setCell ⟨w1.heap.size, 2, none⟩ (.int .i64 lo1)) := (hb2.setCell (p := ⟨w1.heap.size, 1, none⟩) hs _).setCell (p := ⟨w1.heap.size, 2, none⟩) hs _
  refine ⟨⟨by unfold World.cell?; rw [e2]; rfl, by unfold World.cell?; rw [e2]; rfl, by unfold World.cell?; rw [e2]; rfl, by simp [World.frozen?, e2], by simp [World.frozen?, e2]⟩, hb5, ?_⟩
  refine Own.slIn (base := w.heap.size) (ho.same fun g hg' => ?_) fun i h1 h2 => .inr ⟨h1, h2⟩
  obtain ⟨cur, hc⟩ := own_block ho hg'
  have hne : g ≠ w1.heap.size := cells_apart hc e2 (by decide)
  rw [heap_setCell_other _ _ _ _ hne, heap_setCell_other _ _ _ _ hne]
set_option maxHeartbeats 1600000 in
set_option maxRecDepth 4000 in
theorem rappend_none (hR : RDisk base S w p room fs) (n : ByteArray) (A : Option Addr) (ys : List Int) (c : Nat) (hn : n.size ≤ maxLen) (hv : validS n = true) (hr0 : 0 ≤ room) (hr1 : room ≤ 9223372036854775807) (hu : usedM (filesOf fs) ≤ 549755813888) (hlen : fs.length ≤ 1000000000)
    (hfull : ¬ room - (usedM (filesOf fs) : Int) < (ys.length : Int)) (hh : hasF (filesOf fs) n = false) (hl : Lies .u8 w w.heap.size A ys) (hc : ys.length ≤ c) (hA : A = none → c = 0) (hy : IsBytes ys) (hyl : ys.length ≤ 549755813888) :
    Calls Tryd.prog 29 #[.pointer (some ⟨p, 0, none⟩), .string n, .slice A ys.length c] w (RDoes base S p room (appendM room (filesOf fs) n ys) w) := by
  obtain ⟨i0, hi0, hz0, hz1, hz2⟩ := info_parts byte_info
  have hcv := refvalid_any n w hn
  rw [hv] at hcv
  have eo : ofName (filesOf fs) n = ⟨n, [], 0⟩ := by unfold ofName; rw [if_neg (by rw [hh]; simp)]
  rw [appendM_fit hv hfull, eo]
  have HC := Lib.hid hcv
  have HU := Lib.hid (fun m => (rused_any base S (w.drewN m) p room fs (hR.drewN m) (by omega)).mono fun e w' h => (⟨h.1, h.2.symm⟩ : e = .returned (.int .i64 ((usedM (filesOf fs) : Nat) : Int)) ∧ w' = w.drewN m))
  have hfd := fun m => rfind_any base S (w.drewN m) p room fs n (hR.drewN m)
  rw [hh] at hfd
  obtain ⟨k, hk⟩ : ∃ k, findK (filesOf fs) n = k := ⟨_, rfl⟩
  rw [hk] at hfd
  have HFD := Lib.hid hfd
  have PA := Lib.hid (fun W hb v h => put_after (w' := W) hR hb (⟨n, [] ++ ys, 0 + ys.length⟩, v) h ⟨hn, fun c hc => hy c (by simpa using hc), by simp⟩ hlen)
  obtain ⟨_, _, c0, _⟩ := hR.cells
  obtain ⟨U, hU⟩ : ∃ U, usedM (filesOf fs) = U := ⟨_, rfl⟩
  rw [hU] at HU hu hfull
  have hwr2 : IntKind.i64.wrap (room - (U : Int)) = room - (U : Int) := by rw [IntKind.wrap_i64]; omega
  rw [List.nil_append, Nat.zero_add] at PA ⊢
  have HL := Lib.hid hl
  have HA := Lib.hid hA
  have HYL := Lib.hid (show ys.length ≤ 1099511627776 by omega)
  clear hcv hv hR hU hfd hk eo hh hl hA hlen
  go_enter Tryd.func29, Tryd.ntmps29
  go_wp2_with fail
  refine HC.out.mono ?_
  rintro e w1 ⟨rfl, rfl⟩
  go_wp2_with fail
  go_quiet (first | (go_at_call 37; refine Calls.quiet_of_same (HU.out _)))
  go_wp2_with fail
  refine (HFD.out _).mono ?_
  rintro e w1 ⟨rfl, m1, rfl⟩
  have HB1 := Lib.hid (show Below w.heap.size w ((w.drewN nq).drewN m1) from below_drewN (below_drewN (Below.refl _ _) nq) m1)
  clear HFD HU HC c0 hwr2 hr0 hr1 hu
  generalize (w.drewN nq).drewN m1 = w1 at *
  have hl1 : Lies .u8 (w1.alloc (.cells #[.string n, .slice none 0 0, .int .i64 0] 83)) w.heap.size A ys := HL.out.below (HB1.out.alloc HB1.out.size _)
  have hbs := HB1.out.size
  have hann : ∀ (W : World) (ty : TypeId), (Builtin.append_ #[31, 31] ty #[.slice none 0 0, .slice none 0 0]).run Tryd.prog W = .ok (.slice none 0 0) W := fun W ty => run_append_owned_none (P := Tryd.prog) (w := W) 0 31 ty 5 i0 1 Tryd.underlying31 hi0 (.slice none 0 0) 0 [] (World.ownsRow_nil W 0 5 1)
  have BF := Lib.hid (fun v' w2 hg ho => box_fin (S := S) HB1.out n (.slice none 0 0) 0 v' w2 ys hg ho (ys.length : Int))
  go_wp2_with (at_builtin; refine wpList_append_ints rfl (.tmp 41) (.tmp 42) 31 rfl w.heap.size 5 .u8 i0 1 Tryd.underlying31 hi0 hz0 hz1 hz2 (by decide) (.slice none 0 0) [] rfl Own.nil w.heap.size A ys.length c ys rfl rfl hc hl1 (by have := HYL.out; simp; omega) (by simp; omega) HA.out ?_; intro v2 w2 hown2 hgr2 hlo2; rw [List.nil_append] at hown2; obtain ⟨⟨k0, k1, k2, f1, f2⟩, hb5, hs5⟩ := BF.out v2 w2 hgr2 hown2; have HP := Lib.hid (PA.out _ hb5 _ hs5); obtain ⟨A2, c2, rfl, _⟩ := hown2.form; clear hgr2 hown2 hlo2 hl1 BF PA hb5 hs5)
  refine HP.out.mono ?_
  rintro e w6 ⟨rfl, hL⟩
  have FL := Lib.hid hL
  clear hL HP
  go_wp2
  go_ret
  exact ⟨rfl, _, filesOf_layV _ _, FL.out⟩
end
end Go.Proofs.YtkohjkjjkkkpoaaDoor
