/- A contract of the document's own Append. -/
import Derived.Test.YtefjbefmmmllbaaDoorRDSync
import Derived.Test.YtefjbefmmmllbaaDoorVDisk
namespace Go.Proofs.YtefjbefmmmllbaaDoor
open Go.RowKit

section
variable {base : Nat} {S : Nat → Prop} {w : World} {p : Nat} {room : Int} {fs : List FileV} {w1 : World}
set_option maxHeartbeats 800000 in
theorem rappend_bad (hR : RDisk base S w p room fs) (n : ByteArray) (A : Option Addr) (ys : List Int) (c : Nat) (hn : n.size ≤ maxLen) (hv : validS n = false) :
    Calls Tryd.prog 16 #[.pointer (some ⟨p, 0, none⟩), .string n, .slice A ys.length c] w (RDoes base S p room (appendM room (filesOf fs) n ys) w) := by
  have hc := refvalid_any n w hn
  rw [hv] at hc
  have e1 : appendM room (filesOf fs) n ys = (filesOf fs, 6) := by unfold appendM; rw [if_pos hv]
  rw [e1]
  have HC := Lib.hid hc
  have HR := Lib.hid hR
  clear hc hv hR hn e1
  go_enter Tryd.func16, Tryd.ntmps16
  go_wp2_with fail
  refine HC.out.mono ?_
  rintro e w1 ⟨rfl, rfl⟩
  go_wp2
  go_ret
  exact ⟨rfl, fs, rfl, RLeft.of_below HR.out (Below.refl _ _)⟩
set_option maxHeartbeats 800000 in
theorem rappend_full (hR : RDisk base S w p room fs) (n : ByteArray) (A : Option Addr) (ys : List Int) (c : Nat) (hn : n.size ≤ maxLen) (hv : validS n = true) (hr0 : 0 ≤ room) (hr1 : room ≤ 9223372036854775807) (hu : usedM (filesOf fs) ≤ 549755813888) (hfull : room - (usedM (filesOf fs) : Int) < (ys.length : Int)) :
    Calls Tryd.prog 16 #[.pointer (some ⟨p, 0, none⟩), .string n, .slice A ys.length c] w (RDoes base S p room (appendM room (filesOf fs) n ys) w) := by
  have hc := refvalid_any n w hn
  rw [hv] at hc
  have e1 : appendM room (filesOf fs) n ys = (filesOf fs, 7) := by unfold appendM; rw [if_neg (by rw [hv]; simp), if_pos hfull]
  rw [e1]
  have HC := Lib.hid hc
  have HR := Lib.hid hR
  have HU := Lib.hid (fun m => (rused_any base S (w.drewN m) p room fs (hR.drewN m) (by omega)).mono fun e w' h => (⟨h.1, h.2.symm⟩ : e = .returned (.int .i64 ((usedM (filesOf fs) : Nat) : Int)) ∧ w' = w.drewN m))
  obtain ⟨_, _, c0, _⟩ := hR.cells
  obtain ⟨U, hU⟩ : ∃ U, usedM (filesOf fs) = U := ⟨_, rfl⟩
  rw [hU] at HU hu hfull
  have hwr2 : IntKind.i64.wrap (room - (U : Int)) = room - (U : Int) := by rw [IntKind.wrap_i64]; omega
  clear hc hv hR hn e1 hU
  go_enter Tryd.func16, Tryd.ntmps16
  go_wp2_with fail
  refine HC.out.mono ?_
  rintro e w1 ⟨rfl, rfl⟩
  go_wp2_with fail
  go_quiet (first | (go_at_call 30; refine Calls.quiet_of_same (HU.out _)))
  go_wp2
  go_ret
  exact ⟨rfl, fs, rfl, RLeft.of_below HR.out (below_drewN (Below.refl _ _) _)⟩
theorem appendM_fit {n : ByteArray} {ys : List Int} (hv : validS n = true) (hfull : ¬ room - (usedM (filesOf fs) : Int) < (ys.length : Int)) :
    appendM room (filesOf fs) n ys = (layF (filesOf fs) ⟨(ofName (filesOf fs) n).name, (ofName (filesOf fs) n).b ++ ys, (ofName (filesOf fs) n).loose + ys.length⟩, 0) := by
  unfold appendM
  rw [if_neg (by rw [hv]; simp), if_neg hfull]
/-- The box of a file, behind an append and the two stores into it. -/
theorem box_fin (hb1 : Below w.heap.size w w1) (nm : ByteArray) (bv0 : Value) (lo0 : Int) (v' : Value) (w2 : World) (xs : List Int) (hg : (w1.alloc (.cells #[.string nm, bv0, .int .i64 lo0] 74)).grownBy w2 none) (ho : Own .u8 5 w2 w.heap.size v' xs) (lo1 : Int) :
    (w2.cell? ⟨w1.heap.size, 0, none⟩ = some (.string nm) ∧ w2.cell? ⟨w1.heap.size, 1, none⟩ = some bv0 ∧ w2.cell? ⟨w1.heap.size, 2, none⟩ = some (.int .i64 lo0) ∧ w2.frozen? ⟨w1.heap.size, 1, none⟩ = false ∧ w2.frozen? ⟨w1.heap.size, 2, none⟩ = false) ∧
    Below w.heap.size w ((w2.setCell ⟨w1.heap.size, 1, none⟩ v').setCell ⟨w1.heap.size, 2, none⟩ (.int .i64 lo1)) ∧
    SlIn (Grow S w ((w2.setCell ⟨w1.heap.size, 1, none⟩ v').setCell ⟨w1.heap.size, 2, none⟩ (.int .i64 lo1))) ((w2.setCell ⟨w1.heap.size, 1, none⟩ v').setCell ⟨w1.heap.size, 2, none⟩ (.int .i64 lo1)) v' xs := by
  have hs := hb1.size
  have e0 : (w1.alloc (.cells #[.string nm, bv0, .int .i64 lo0] 74)).heap[w1.heap.size]? = some (.cells #[.string nm, bv0, .int .i64 lo0] 74 (0, 0)) := by
    show (w1.heap.push _)[w1.heap.size]? = _
    simp
  have e2 : w2.heap[w1.heap.size]? = some (.cells #[.string nm, bv0, .int .i64 lo0] 74 (0, 0)) := by rw [hg.block _ (by simp) (by simp)]; exact e0
  have hb2 : Below w.heap.size w w2 := (hb1.alloc hs _).grown hg (by simp; omega) (by simp)
  have hb5 : Below w.heap.size w ((w2.setCell ⟨w1.heap.size, 1, none⟩ v').setCell ⟨w1.heap.size, 2, none⟩ (.int .i64 lo1)) := (hb2.setCell (p := ⟨w1.heap.size, 1, none⟩) hs _).setCell (p := ⟨w1.heap.size, 2, none⟩) hs _
  refine ⟨⟨by unfold World.cell?; rw [e2]; rfl, by unfold World.cell?; rw [e2]; rfl, by unfold World.cell?; rw [e2]; rfl, by simp [World.frozen?, e2], by simp [World.frozen?, e2]⟩, hb5, ?_⟩
  refine Own.slIn (base := w.heap.size) (ho.same fun g hg' => ?_) fun i h1 h2 => .inr ⟨h1, h2⟩
  obtain ⟨cur, hc⟩ := own_block ho hg'
  have hne : g ≠ w1.heap.size := cells_apart hc e2 (by decide)
  rw [heap_setCell_other _ _ _ _ hne, heap_setCell_other _ _ _ _ hne]
set_option maxHeartbeats 1600000 in
set_option maxRecDepth 4000 in
theorem rappend_none (hR : RDisk base S w p room fs) (n : ByteArray) (A : Option Addr) (ys : List Int) (c : Nat) (hn : n.size ≤ maxLen) (hv : validS n = true) (hr0 : 0 ≤ room) (hr1 : room ≤ 9223372036854775807) (hu : usedM (filesOf fs) ≤ 549755813888) (hlen : fs.length ≤ 1000000000)
    (hfull : ¬ room - (usedM (filesOf fs) : Int) < (ys.length : Int)) (hh : hasF (filesOf fs) n = false) (hl : Lies .u8 w w.heap.size A ys) (hc : ys.length ≤ c) (hA : A = none → c = 0) (hy : IsBytes ys) (hyl : ys.length ≤ 549755813888) :
    Calls Tryd.prog 16 #[.pointer (some ⟨p, 0, none⟩), .string n, .slice A ys.length c] w (RDoes base S p room (appendM room (filesOf fs) n ys) w) := by
  obtain ⟨i0, hi0, hz0, hz1, hz2⟩ := info_parts byte_info
  have hcv := refvalid_any n w hn
  rw [hv] at hcv
  have eo : ofName (filesOf fs) n = ⟨n, [], 0⟩ := by unfold ofName; rw [if_neg (by rw [hh]; simp)]
  rw [appendM_fit hv hfull, eo]
  have HC := Lib.hid hcv
  have HU := Lib.hid (fun m => (rused_any base S (w.drewN m) p room fs (hR.drewN m) (by omega)).mono fun e w' h => (⟨h.1, h.2.symm⟩ : e = .returned (.int .i64 ((usedM (filesOf fs) : Nat) : Int)) ∧ w' = w.drewN m))
  have hfd := fun m => rfind_any base S (w.drewN m) p room fs n (hR.drewN m)
  rw [hh] at hfd
  obtain ⟨k, hk⟩ : ∃ k, findK (filesOf fs) n = k := ⟨_, rfl⟩
  rw [hk] at hfd
  have HFD := Lib.hid hfd
  have PA := Lib.hid (fun W hb v h => put_after (w' := W) hR hb (⟨n, [] ++ ys, 0 + ys.length⟩, v) h ⟨hn, fun c hc => hy c (by simpa using hc), by simp⟩ hlen)
  obtain ⟨_, _, c0, _⟩ := hR.cells
  obtain ⟨U, hU⟩ : ∃ U, usedM (filesOf fs) = U := ⟨_, rfl⟩
  rw [hU] at HU hu hfull
  have hwr2 : IntKind.i64.wrap (room - (U : Int)) = room - (U : Int) := by rw [IntKind.wrap_i64]; omega
  rw [List.nil_append, Nat.zero_add] at PA ⊢
  have HL := Lib.hid hl
  have HA := Lib.hid hA
  have HYL := Lib.hid (show ys.length ≤ 1099511627776 by omega)
  clear hcv hv hR hU hfd hk eo hh hl hA hlen
  go_enter Tryd.func16, Tryd.ntmps16
  go_wp2_with fail
  refine HC.out.mono ?_
  rintro e w1 ⟨rfl, rfl⟩
  go_wp2_with fail
  go_quiet (first | (go_at_call 30; refine Calls.quiet_of_same (HU.out _)))
  go_wp2_with fail
  refine (HFD.out _).mono ?_
  rintro e w1 ⟨rfl, m1, rfl⟩
  have HB1 := Lib.hid (show Below w.heap.size w ((w.drewN nq).drewN m1) from below_drewN (below_drewN (Below.refl _ _) nq) m1)
  clear HFD HU HC c0 hwr2 hr0 hr1 hu
  generalize (w.drewN nq).drewN m1 = w1 at *
  have hl1 : Lies .u8 (w1.alloc (.cells #[.string n, .slice none 0 0, .int .i64 0] 74)) w.heap.size A ys := HL.out.below (HB1.out.alloc HB1.out.size _)
  have hbs := HB1.out.size
  have hann : ∀ (W : World) (ty : TypeId), (Builtin.append_ #[31, 31] ty #[.slice none 0 0, .slice none 0 0]).run Tryd.prog W = .ok (.slice none 0 0) W := fun W ty => run_append_owned_none (P := Tryd.prog) (w := W) 0 31 ty 5 i0 1 Tryd.underlying31 hi0 (.slice none 0 0) 0 [] (World.ownsRow_nil W 0 5 1)
  have BF := Lib.hid (fun v' w2 hg ho => box_fin (S := S) HB1.out n (.slice none 0 0) 0 v' w2 ys hg ho (ys.length : Int))
  go_wp2_with (at_builtin; refine wpList_append_ints rfl (.tmp 41) (.tmp 42) 31 rfl w.heap.size 5 .u8 i0 1 Tryd.underlying31 hi0 hz0 hz1 hz2 (by decide) (.slice none 0 0) [] rfl Own.nil w.heap.size A ys.length c ys rfl rfl hc hl1 (by have := HYL.out; simp; omega) (by simp; omega) HA.out ?_; intro v2 w2 hown2 hgr2 hlo2; rw [List.nil_append] at hown2; obtain ⟨⟨k0, k1, k2, f1, f2⟩, hb5, hs5⟩ := BF.out v2 w2 hgr2 hown2; have HP := Lib.hid (PA.out _ hb5 _ hs5); obtain ⟨A2, c2, rfl, _⟩ := hown2.form; clear hgr2 hown2 hlo2 hl1 BF PA hb5 hs5)
  refine HP.out.mono ?_
  rintro e w6 ⟨rfl, hL⟩
  have FL := Lib.hid hL
  clear hL HP
  go_wp2
  go_ret
  exact ⟨rfl, _, filesOf_layV _ _, FL.out⟩
theorem box_step (hb1 : Below w.heap.size w w1) (nm : ByteArray) (bv0 : Value) (lo0 : Int) (w2 : World) (hg : (w1.alloc (.cells #[.string nm, bv0, .int .i64 lo0] 74)).grownBy w2 none) :
    Below w.heap.size w w2 ∧ w2.heap[w1.heap.size]? = some (.cells #[.string nm, bv0, .int .i64 lo0] 74 (0, 0)) := by
  have hs := hb1.size
  have e0 : (w1.alloc (.cells #[.string nm, bv0, .int .i64 lo0] 74)).heap[w1.heap.size]? = some (.cells #[.string nm, bv0, .int .i64 lo0] 74 (0, 0)) := by
    show (w1.heap.push _)[w1.heap.size]? = _
    simp
  exact ⟨(hb1.alloc hs _).grown hg (by simp; omega) (by simp), by rw [hg.block _ (by simp) (by simp)]; exact e0⟩
theorem box_fin2 {bx : Nat} (hs : w.heap.size ≤ bx) {w2 w3 : World} {nm : ByteArray} {bv0 : Value} {lo0 : Int} {v2 v' : Value} {xs zs : List Int} (hb2 : Below w.heap.size w w2) (e2 : w2.heap[bx]? = some (.cells #[.string nm, bv0, .int .i64 lo0] 74 (0, 0)))
    (ho2 : Own .u8 5 w2 w.heap.size v2 xs) (hg : w2.grownBy w3 v2.ownBlock) (ho : Own .u8 5 w3 w.heap.size v' zs) (lo1 : Int) :
    (w3.cell? ⟨bx, 0, none⟩ = some (.string nm) ∧ w3.cell? ⟨bx, 1, none⟩ = some bv0 ∧ w3.cell? ⟨bx, 2, none⟩ = some (.int .i64 lo0) ∧ w3.frozen? ⟨bx, 1, none⟩ = false ∧ w3.frozen? ⟨bx, 2, none⟩ = false) ∧
    Below w.heap.size w ((w3.setCell ⟨bx, 1, none⟩ v').setCell ⟨bx, 2, none⟩ (.int .i64 lo1)) ∧
    SlIn (Grow S w ((w3.setCell ⟨bx, 1, none⟩ v').setCell ⟨bx, 2, none⟩ (.int .i64 lo1))) ((w3.setCell ⟨bx, 1, none⟩ v').setCell ⟨bx, 2, none⟩ (.int .i64 lo1)) v' zs := by
  have hbl := (Array.getElem?_eq_some_iff.1 e2).1
  have e3 : w3.heap[bx]? = some (.cells #[.string nm, bv0, .int .i64 lo0] 74 (0, 0)) := by
    rw [hg.block bx hbl fun e => ?_]
    · exact e2
    · obtain ⟨cur, hc⟩ := own_block ho2 e.symm
      exact cells_apart hc e2 (by decide) rfl
  have hb3 : Below w.heap.size w w3 := hb2.grown hg hb2.size fun k hk => (ho2.lt k hk).1
  have hb5 : Below w.heap.size w ((w3.setCell ⟨bx, 1, none⟩ v').setCell ⟨bx, 2, none⟩ (.int .i64 lo1)) := (hb3.setCell (p := ⟨bx, 1, none⟩) hs _).setCell (p := ⟨bx, 2, none⟩) hs _
  refine ⟨⟨by unfold World.cell?; rw [e3]; rfl, by unfold World.cell?; rw [e3]; rfl, by unfold World.cell?; rw [e3]; rfl, by simp [World.frozen?, e3], by simp [World.frozen?, e3]⟩, hb5, ?_⟩
  refine Own.slIn (base := w.heap.size) (ho.same fun g hg' => ?_) fun i h1 h2 => .inr ⟨h1, h2⟩
  obtain ⟨cur, hc⟩ := own_block ho hg'
  have hne : g ≠ bx := cells_apart hc e3 (by decide)
  rw [heap_setCell_other _ _ _ _ hne, heap_setCell_other _ _ _ _ hne]
set_option maxHeartbeats 1600000 in
set_option maxRecDepth 4000 in
theorem rappend_some (hR : RDisk base S w p room fs) (n : ByteArray) (A : Option Addr) (ys : List Int) (c : Nat) (hn : n.size ≤ maxLen) (hv : validS n = true) (hr0 : 0 ≤ room) (hr1 : room ≤ 9223372036854775807) (hu : usedM (filesOf fs) ≤ 549755813888) (hlen : fs.length ≤ 1000000000)
    (hfull : ¬ room - (usedM (filesOf fs) : Int) < (ys.length : Int)) (hh : hasF (filesOf fs) n = true) (hl : Lies .u8 w w.heap.size A ys) (hc : ys.length ≤ c) (hA : A = none → c = 0) (hy : IsBytes ys) (hyl : ys.length ≤ 549755813888) :
    Calls Tryd.prog 16 #[.pointer (some ⟨p, 0, none⟩), .string n, .slice A ys.length c] w (RDoes base S p room (appendM room (filesOf fs) n ys) w) := by
  obtain ⟨i0, hi0, hz0, hz1, hz2⟩ := info_parts byte_info
  have hcv := refvalid_any n w hn
  rw [hv] at hcv
  have HC := Lib.hid hcv
  have HU := Lib.hid (fun m => (rused_any base S (w.drewN m) p room fs (hR.drewN m) (by omega)).mono fun e w' h => (⟨h.1, h.2.symm⟩ : e = .returned (.int .i64 ((usedM (filesOf fs) : Nat) : Int)) ∧ w' = w.drewN m))
  have hfd := fun m => rfind_any base S (w.drewN m) p room fs n (hR.drewN m)
  rw [hh] at hfd
  have hlt := hasF_lt hh
  rw [filesOf_length] at hlt
  have eo : ofName (filesOf fs) n = fs[findK (filesOf fs) n].1 := by
    unfold ofName
    rw [if_pos hh, List.getElem?_eq_getElem (by rw [filesOf_length]; exact hlt), filesOf_at fs _ hlt]
    rfl
  rw [appendM_fit hv hfull, eo]
  obtain ⟨k, hk⟩ : ∃ k, findK (filesOf fs) n = k := ⟨_, rfl⟩
  simp only [hk] at hfd hlt ⊢
  have HFD := Lib.hid hfd
  obtain ⟨Al, cl, c0, c1, hcc, hcm, _, hfs⟩ := hR.cells
  obtain ⟨hslx, hwfx⟩ : SlIn S w fs[k].2 fs[k].1.b ∧ fs[k].1.wf := by obtain ⟨_, _, _, _, hr⟩ := hR; exact hr.2.2 _ (List.getElem_mem hlt)
  have hxu : fs[k].1.b.length ≤ usedM (filesOf fs) := by
    have h1 := usedM_snoc (filesOf fs) k (by rw [filesOf_length]; exact hlt)
    have h2 := usedM_le (filesOf fs) (k + 1)
    rw [filesOf_at fs k hlt] at h1
    omega
  obtain ⟨g, off, rfl, hgl, hat⟩ := hfs (by rintro rfl; simp at hlt)
  obtain ⟨n0, n1, n2⟩ := hat k hlt
  have hpl : p < w.heap.size := cell_block_lt c0
  obtain ⟨x, hx⟩ : ∃ x, fs[k] = x := ⟨_, rfl⟩
  rw [hx] at hslx hwfx hxu n0 n1 n2 ⊢
  have PA := Lib.hid (fun W hb v h => put_after (w' := W) hR hb (⟨x.1.name, x.1.b ++ ys, x.1.loose + ys.length⟩, v) h ⟨hwfx.1, fun c hc => by
    rcases List.mem_append.1 hc with hc | hc
    · exact hwfx.2.1 c hc
    · exact hy c hc, by have := hwfx.2.2; show x.1.loose + ys.length ≤ (x.1.b ++ ys).length; rw [List.length_append]; omega⟩ hlen)
  obtain ⟨U, hU⟩ : ∃ U, usedM (filesOf fs) = U := ⟨_, rfl⟩
  rw [hU] at HU hu hfull hxu
  have hwr2 : IntKind.i64.wrap (room - (U : Int)) = room - (U : Int) := by rw [IntKind.wrap_i64]; omega
  have hlob := hwfx.2.2
  obtain ⟨Ab, cb, hbv, hb1, hb2, hb3, hb4⟩ := hslx
  rw [hbv] at n1
  have HLX := Lib.hid hb4.lies
  have HL := Lib.hid hl
  have HA := Lib.hid hA
  have HA2 := Lib.hid hb3
  have HYL := Lib.hid (show x.1.b.length + ys.length ≤ 1099511627776 by omega)
  obtain ⟨nm, hnm⟩ : ∃ nm, x.1.name = nm := ⟨_, rfl⟩
  obtain ⟨lo, hlo⟩ : ∃ lo, x.1.loose = lo := ⟨_, rfl⟩
  obtain ⟨xb, hxb⟩ : ∃ xb, x.1.b = xb := ⟨_, rfl⟩
  rw [hnm] at n0 PA ⊢
  rw [hlo] at n2 PA hlob ⊢
  rw [hxb] at n1 PA hlob HLX HYL hb1 hxu ⊢
  have hw2 : wrap64 ((lo : Int) + (ys.length : Int)) = (lo : Int) + (ys.length : Int) := by unfold wrap64; omega
  have HCX := Lib.hid hb1
  obtain ⟨off2, hoff⟩ : ∃ o, off + k * 3 = o := ⟨_, rfl⟩
  rw [hoff] at n0 n1 n2
  clear hcv hv hR hU hfd hk eo hh hl hA hlen hx hbv hb2 hb3 hb4 hnm hlo hxb hat hfs hwfx hcm hb1 hlob hxu
  obtain ⟨zs, hzs⟩ : ∃ zs, xb ++ ys = zs := ⟨_, rfl⟩
  rw [hzs] at PA ⊢
  have HZ := Lib.hid hzs
  clear hzs
  have HY1 := Lib.hid (show ([] : List Int).length + xb.length ≤ 1099511627776 from Nat.le_trans (by rw [List.length_nil, Nat.zero_add]; exact Nat.le_add_right _ _) HYL.out)
  have C1 := Lib.hid c1
  have N0 := Lib.hid n0
  have N1 := Lib.hid n1
  have N2 := Lib.hid n2
  have HW2 := Lib.hid hw2
  have HLT := Lib.hid hlt
  have HCCL := Lib.hid hcc
  have HOFF := Lib.hid hoff
  have HGL := Lib.hid hgl
  have HPL := Lib.hid hpl
  have HC2 := Lib.hid hc
  clear c1 n0 n1 n2 hw2 hlt hcc hoff hgl hpl hc hyl hy
  go_enter Tryd.func16, Tryd.ntmps16
  go_wp2_with fail
  refine HC.out.mono ?_
  rintro e w1 ⟨rfl, rfl⟩
  go_wp2_with fail
  go_quiet (first | (go_at_call 30; refine Calls.quiet_of_same (HU.out _)))
  go_wp2_with fail
  refine (HFD.out _).mono ?_
  rintro e w1 ⟨rfl, m1, rfl⟩
  have HB1 := Lib.hid (show Below w.heap.size w ((w.drewN nq).drewN m1) from below_drewN (below_drewN (Below.refl _ _) nq) m1)
  have c1' : ((w.drewN nq).drewN m1).cell? ⟨p, 1, none⟩ = some (.slice (some ⟨g, off, none⟩) fs.length cl) := C1.out
  have n0' : ((w.drewN nq).drewN m1).cell? ⟨g, off2, none⟩ = some (.string nm) := N0.out
  have n1' : ((w.drewN nq).drewN m1).cell? ⟨g, off2 + 1, none⟩ = some (.slice Ab xb.length cb) := N1.out
  have n2' : ((w.drewN nq).drewN m1).cell? ⟨g, off2 + 2, none⟩ = some (.int .i64 (lo : Int)) := N2.out
  clear HFD HU HC c0 hwr2 hr0 hr1 hu hfull C1 N0 N1 N2
  generalize (w.drewN nq).drewN m1 = w1 at *
  have hbs := HB1.out.size
  have hgl1 : g < w1.heap.size := Nat.lt_of_lt_of_le HGL.out hbs
  have hpl1 : p < w1.heap.size := Nat.lt_of_lt_of_le HPL.out hbs
  have hba : Below w1.heap.size w1 (w1.alloc (.cells #[.string n, .slice none 0 0, .int .i64 0] 74)) := (Below.refl _ _).alloc (Nat.le_refl _) _
  have c1a := (hba.cell (p := ⟨p, 1, none⟩) hpl1).trans c1'
  have n0a := (hba.cell (p := ⟨g, off2, none⟩) hgl1).trans n0'
  have n1a := (hba.cell (p := ⟨g, off2 + 1, none⟩) hgl1).trans n1'
  have n2a := (hba.cell (p := ⟨g, off2 + 2, none⟩) hgl1).trans n2'
  have hoff' : off + k * 3 = off2 := HOFF.out
  have hw2 := HW2.out
  have hlt := HLT.out
  clear hba c1' n0' n1' n2'
  have HLL := Lib.hid (fun (W : World) (hb : Below w.heap.size w W) => HL.out.below hb)
  have HLX1 := Lib.hid (HLX.out.below (HB1.out.alloc HB1.out.size (.cells #[.string nm, .slice Ab xb.length cb, .int .i64 (lo : Int)] 74)))
  clear HLX HL
  have HB8 := Lib.hid (HB1.out.alloc HB1.out.size (.cells #[.string nm, .slice Ab xb.length cb, .int .i64 (lo : Int)] 74)).size
  clear hpl1 hgl1 hbs
  have B2 := Lib.hid (fun w2 (hg : (w1.alloc (.cells #[.string nm, .slice Ab xb.length cb, .int .i64 (lo : Int)] 74)).grownBy w2 none) => box_step HB1.out nm (.slice Ab xb.length cb) (lo : Int) w2 hg)
  go_wp2_with (first | (at_builtin; refine wpList_append_ints rfl (.const (.slice none 0 0)) (.tmp 40) 31 rfl w.heap.size 5 .u8 i0 1 Tryd.underlying31 hi0 hz0 hz1 hz2 (by decide) (.slice none 0 0) [] rfl Own.nil w.heap.size Ab xb.length cb xb rfl rfl HCX.out HLX1.out HY1.out HB8.out HA2.out ?_; intro v2 w2 hown2 hgr2 _; rw [List.nil_append] at hown2; obtain ⟨hbw2, hbx2⟩ := B2.out w2 hgr2; obtain ⟨A2, c2, rfl, _⟩ := hown2.form; have hl2 := HLL.out w2 hbw2; clear hgr2 B2 HLX1 c1a n0a n1a n2a) | (at_builtin; refine wpList_append_ints rfl (.tmp 41) (.tmp 42) 31 rfl w.heap.size 5 .u8 i0 1 Tryd.underlying31 hi0 hz0 hz1 hz2 (by decide) (.slice A2 xb.length c2) xb rfl hown2 w.heap.size A ys.length c ys rfl rfl HC2.out hl2 HYL.out hbw2.size HA.out ?_; intro v3 w3 hown3 hgr3 _; rw [HZ.out] at hown3; obtain ⟨⟨k0, k1, k2, f1, f2⟩, hb5, hs5⟩ := box_fin2 (S := S) HB1.out.size hbw2 hbx2 hown2 hgr3 hown3 ((lo : Int) + (ys.length : Int)); have HP := Lib.hid (PA.out _ hb5 _ hs5); obtain ⟨A3, c3, rfl, _⟩ := hown3.form; (try dsimp only at HP); simp only [Int.natCast_add] at HP; clear hgr3 hown3 hown2 hl2 hbw2 hbx2 PA hb5 hs5))
  refine HP.out.mono ?_
  rintro e w6 ⟨rfl, hL⟩
  have FL := Lib.hid hL
  clear hL HP k0 k1 k2 f1 f2 hw2 hoff'
  go_wp2
  go_ret
  exact ⟨rfl, layV fs (⟨nm, zs, lo + ys.length⟩, .slice A3 zs.length c3), filesOf_layV fs _, FL.out⟩
theorem rappend_any (hR : RDisk base S w p room fs) (n : ByteArray) (A : Option Addr) (ys : List Int) (c : Nat) (hn : n.size ≤ maxLen) (hr0 : 0 ≤ room) (hr1 : room ≤ 9223372036854775807) (hu : usedM (filesOf fs) ≤ 549755813888) (hlen : fs.length ≤ 1000000000)
    (hl : Lies .u8 w w.heap.size A ys) (hc : ys.length ≤ c) (hA : A = none → c = 0) (hy : IsBytes ys) (hyl : ys.length ≤ 549755813888) :
    Calls Tryd.prog 16 #[.pointer (some ⟨p, 0, none⟩), .string n, .slice A ys.length c] w (RDoes base S p room (appendM room (filesOf fs) n ys) w) := by
  cases hv : validS n with
  | false => exact rappend_bad hR n A ys c hn hv
  | true =>
    by_cases hfull : room - (usedM (filesOf fs) : Int) < (ys.length : Int)
    · exact rappend_full hR n A ys c hn hv hr0 hr1 hu hfull
    · cases hh : hasF (filesOf fs) n with
      | false => exact rappend_none hR n A ys c hn hv hr0 hr1 hu hlen hfull hh hl hc hA hy hyl
      | true => exact rappend_some hR n A ys c hn hv hr0 hr1 hu hlen hfull hh hl hc hA hy hyl
end
end Go.Proofs.YtefjbefmmmllbaaDoor
