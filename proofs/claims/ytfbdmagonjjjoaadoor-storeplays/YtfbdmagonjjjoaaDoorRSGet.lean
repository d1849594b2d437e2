/- A contract of the document's own Get, of a store. -/
import Derived.Test.YtfbdmagonjjjoaaDoorRSFault
import Derived.Test.YtfbdmagonjjjoaaDoorRefValid
import Derived.Test.YtfbdmagonjjjoaaDoorStoreNum
import Derived.Handy
namespace Go.Proofs.YtfbdmagonjjjoaaDoor
open Go.RowKit

theorem gotM_some {l : List FileM} {n : ByteArray} (h : validS n = true) (hh : hasF l n = true) : getM l n = (l[findK l n]'(hasF_lt hh), 0) := by
  unfold getM
  rw [if_neg (by rw [h]; simp), if_pos hh, List.getElem?_eq_getElem (hasF_lt hh)]
  rfl
theorem got_at {fs : List FileV} {n : ByteArray} (h : validS n = true) (hh : hasF (filesOf fs) n = true) : ∃ (j : Nat) (x : FileV), findK (filesOf fs) n = j ∧ fs[j]? = some x ∧ getM (filesOf fs) n = (x.1, 0) := by
  have hlt := hasF_lt hh
  rw [filesOf_length] at hlt
  have hgm := gotM_some h hh
  rw [filesOf_at fs _ hlt] at hgm
  exact ⟨_, _, rfl, List.getElem?_eq_getElem hlt, hgm⟩
theorem faultyG_no {k : Int} (h0 : k ≠ 0) (h2 : k ≠ 2) (r : FileM × Int) : faultyG k r = (noFile, 9) := by unfold faultyG; rw [if_neg h0, if_neg h2]
theorem bytes_under : Tryd.prog.underlying 32 = some (.slice 5) := by kernel_rfl
/-- append of bytes onto nothing: the run. -/
theorem new_bytes {W : World} {ys : List Int} {A : Option Addr} {c B : Nat} (hl : Lies .u8 W B A ys) (hA : A = none → c = 0) (hc : ys.length ≤ c) (hb : ys.length ≤ 549755813888) (ty : TypeId) :
    ∃ A' c' w1, (Builtin.append_ #[32, 32] ty #[.slice none 0 0, .slice A ys.length c]).run Tryd.prog W = .ok (.slice A' ys.length c') w1 ∧ Own .u8 5 w1 W.heap.size (.slice A' ys.length c') ys ∧ Below W.heap.size W w1 := by
  obtain ⟨i, hi, hz, hs, hby⟩ : ∃ i, Tryd.prog.info? 5 = some i ∧ i.zero = some (.int .u8 0) ∧ i.size = 1 ∧ i.bytes = 1 := by
    obtain ⟨i, hi, he⟩ := Option.map_eq_some_iff.1 byte_info
    exact ⟨i, hi, congrArg (·.1) he, congrArg (·.2.1) he, congrArg (·.2.2) he⟩
  obtain ⟨v', w1, hrun, h1, h2, _⟩ := run_append_ints (P := Tryd.prog) (w := W) 32 ty W.heap.size 5 .u8 i 1 bytes_under hi hz hs hby (by decide) (.slice none 0 0) [] Own.nil B A ys.length c ys rfl hc hl (by simp; omega) (Nat.le_refl _) hA
  rw [List.nil_append] at h1
  obtain ⟨A', c', rfl, _⟩ := h1.form
  exact ⟨A', c', w1, hrun, h1, ⟨h2.os, h2.tape, h2.output, h2.size, fun i hi => h2.block i hi (by simp [Value.ownBlock])⟩⟩

section
variable {base : Nat} {S : Nat → Prop} {w : World} {p : Nat} {room : Int} {fs : List FileV} {bad : List Int}
/-- What Get answers. -/
def TellsO (base : Nat) (S : Nat → Prop) (p : Nat) (room : Int) (fs : List FileV) (bad : List Int) (r : FileM × Int) (w : World) (e : Ending) (w' : World) : Prop :=
  ∃ v w1, e = .returned (.tuple #[v, .int .i64 r.2]) ∧ OLeft base S w w1 p room fs bad ∧ Own .u8 5 w' w1.heap.size v r.1.b ∧ Below w1.heap.size w1 w'
set_option maxHeartbeats 3200000 in
set_option maxRecDepth 4000 in
theorem osget_any (hR : RStore base S w p room fs bad) (n : ByteArray) (hn : n.size ≤ maxLen) (hbl : bad.length ≤ 1000000) (hs : ∀ x ∈ fs, x.1.b.length ≤ 549755813888) :
    Calls Tryd.prog 20 #[.pointer (some ⟨p, 0, none⟩), .string n] w (TellsO base S p room fs bad.tail (faultyG (bad.headD 0) (getM (filesOf fs) n)) w) := by
  have HT := Lib.hid (osfault_any hR hbl)
  have HV := Lib.hid (fun W => refvalid_any n W hn)
  have HFD := Lib.hid (fun (w1 : World) (hL : OLeft base S w w1 p room fs bad.tail) => osfind_any base _ w1 p room fs bad.tail n hL.store)
  have HS := Lib.hid hs
  obtain ⟨k, hk⟩ : ∃ k, bad.headD 0 = k := ⟨_, rfl⟩
  rw [hk] at HT ⊢
  generalize bad.tail = bt at *
  clear hR hn hbl hs hk
  by_cases h0 : k = 0
  · subst h0
    cases hv : validS n with
    | false =>
      rw [hv] at HV
      rw [getM_bad hv]
      clear hv HFD HS
      go_enter Tryd.func20, Tryd.ntmps20
      go_wp2_with fail
      refine HT.out.mono ?_
      rintro e w1 ⟨rfl, hL⟩
      go_wp2_with fail
      refine (HV.out _).mono ?_
      rintro e w2 ⟨rfl, rfl⟩
      go_wp2
      go_ret2
      exact ⟨_, w1, rfl, hL, Own.nil, Below.refl _ _⟩
    | true =>
      rw [hv] at HV
      cases hh : hasF (filesOf fs) n with
      | false =>
        rw [getM_none hv hh]
        rw [hh] at HFD
        clear hv hh HS
        go_enter Tryd.func20, Tryd.ntmps20
        go_wp2_with fail
        refine HT.out.mono ?_
        rintro e w1 ⟨rfl, hL⟩
        go_wp2_with fail
        refine (HV.out _).mono ?_
        rintro e w2 ⟨rfl, rfl⟩
        have HFN := Lib.hid (HFD.out w1 hL)
        go_wp2_with fail
        refine HFN.out.mono ?_
        rintro e w2 ⟨rfl, m, rfl⟩
        go_wp2
        go_ret2
        exact ⟨_, w1, rfl, hL, Own.nil, below_drewN (Below.refl _ _) m⟩
      | true =>
        obtain ⟨j, x, hj, hxj, hgm⟩ := got_at hv hh
        rw [hgm]
        rw [hh, hj] at HFD
        obtain ⟨hlt, hx⟩ := List.getElem?_eq_some_iff.1 hxj
        have hxm : x ∈ fs := by rw [← hx]; exact List.getElem_mem hlt
        have HX : Hid (∀ w1, OLeft base S w w1 p room fs bt → ∀ m, ∃ A c g off Ax cx, (w1.drewN m).cell? ⟨p, 1, none⟩ = some (.slice A fs.length c) ∧ A = some ⟨g, off, none⟩ ∧ (w1.drewN m).cell? ⟨g, off + j * 2 + 1, none⟩ = some (.slice Ax x.1.b.length cx) ∧
            ∀ ty, ∃ A' c' w2, (Builtin.append_ #[32, 32] ty #[.slice none 0 0, .slice Ax x.1.b.length cx]).run Tryd.prog (w1.drewN m) = .ok (.slice A' x.1.b.length c') w2 ∧ Own .u8 5 w2 (w1.drewN m).heap.size (.slice A' x.1.b.length c') x.1.b ∧ Below (w1.drewN m).heap.size (w1.drewN m) w2) := Lib.hid fun w1 hL m => by
          obtain ⟨A, c, _, _, _, e1, _, _, _, _, e2, _⟩ := (hL.store.drewN m).cells
          obtain ⟨g, off, hA, hg, hat⟩ := e2 (by rintro rfl; simp at hlt)
          obtain ⟨_, _, _, _, _, hrow, _⟩ := hL.store.drewN m
          obtain ⟨Ax, cx, hv2, hc1, hc2, hc3, hc4⟩ := (hrow.2.2 x hxm).1
          have h2 := (hat j hlt).2
          rw [hx, hv2] at h2
          exact ⟨A, c, g, off, Ax, cx, e1, hA, h2, fun ty => new_bytes hc4.lies hc3 hc1 (HS.out x hxm) ty⟩
        generalize x.1 = f at *
        clear hv hh HS hgm hj hx hxm hxj
        go_enter Tryd.func20, Tryd.ntmps20
        go_wp2_with fail
        refine HT.out.mono ?_
        rintro e w1 ⟨rfl, hL⟩
        go_wp2_with fail
        refine (HV.out _).mono ?_
        rintro e w2 ⟨rfl, rfl⟩
        have HFN := Lib.hid (HFD.out w1 hL)
        go_wp2_with fail
        refine HFN.out.mono ?_
        rintro e w2 ⟨rfl, m, rfl⟩
        obtain ⟨A, c, g, off, Ax, cx, d1, rfl, d2, hap⟩ := HX.out w1 hL m
        obtain ⟨bl, hbl⟩ : ∃ bl, f.b.length = bl := ⟨_, rfl⟩
        rw [hbl] at d2 hap
        have HAP := Lib.hid hap
        clear hap hbl HFN HX
        generalize hW : w1.drewN m = W at *
        go_wp2_with (at_builtin; obtain ⟨A', c', w2, hrun, ho, hb⟩ := HAP.out 32; refine wpList_append_run rfl (.const (.slice none 0 0)) (.tmp 37) 32 rfl _ _ rfl rfl _ w2 hrun ?_)
        go_ret2
        subst hW
        exact ⟨_, w1, rfl, hL, ho, ⟨hb.os, hb.tape, hb.output, hb.size, hb.block⟩⟩
  · by_cases h2 : k = 2
    · subst h2
      cases hv : validS n with
      | false =>
        rw [hv] at HV
        rw [getM_bad hv]
        clear hv HFD HS h0
        go_enter Tryd.func20, Tryd.ntmps20
        go_wp2_with fail
        refine HT.out.mono ?_
        rintro e w1 ⟨rfl, hL⟩
        go_wp2_with fail
        refine (HV.out _).mono ?_
        rintro e w2 ⟨rfl, rfl⟩
        go_wp2
        go_ret2
        exact ⟨_, w1, rfl, hL, Own.nil, Below.refl _ _⟩
      | true =>
        rw [hv] at HV
        cases hh : hasF (filesOf fs) n with
        | false =>
          rw [getM_none hv hh]
          rw [hh] at HFD
          clear hv hh HS h0
          go_enter Tryd.func20, Tryd.ntmps20
          go_wp2_with fail
          refine HT.out.mono ?_
          rintro e w1 ⟨rfl, hL⟩
          go_wp2_with fail
          refine (HV.out _).mono ?_
          rintro e w2 ⟨rfl, rfl⟩
          have HFN := Lib.hid (HFD.out w1 hL)
          go_wp2_with fail
          refine HFN.out.mono ?_
          rintro e w2 ⟨rfl, m, rfl⟩
          go_wp2
          go_ret2
          exact ⟨_, w1, rfl, hL, Own.nil, below_drewN (Below.refl _ _) m⟩
        | true =>
          rw [gotM_some hv hh]
          rw [hh] at HFD
          clear hv HS h0
          go_enter Tryd.func20, Tryd.ntmps20
          go_wp2_with fail
          refine HT.out.mono ?_
          rintro e w1 ⟨rfl, hL⟩
          go_wp2_with fail
          refine (HV.out _).mono ?_
          rintro e w2 ⟨rfl, rfl⟩
          have HFN := Lib.hid (HFD.out w1 hL)
          go_wp2_with fail
          refine HFN.out.mono ?_
          rintro e w2 ⟨rfl, m, rfl⟩
          go_wp2
          go_ret2
          exact ⟨_, w1, rfl, hL, Own.nil, below_drewN (Below.refl _ _) m⟩
    · rw [faultyG_no h0 h2]
      have b0 : (k != 0) = true := by simpa using h0
      have b2 : (k != 2) = true := by simpa using h2
      clear HFD HS HV h0 h2
      go_enter Tryd.func20, Tryd.ntmps20
      go_wp2_with fail
      refine HT.out.mono ?_
      rintro e w1 ⟨rfl, hL⟩
      go_wp2
      go_ret2
      exact ⟨_, w1, rfl, hL, Own.nil, Below.refl _ _⟩
end
end Go.Proofs.YtfbdmagonjjjoaaDoor
