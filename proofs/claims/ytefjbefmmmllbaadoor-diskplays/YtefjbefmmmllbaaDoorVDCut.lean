/- Contracts of the program's own Sync, Cut, Remove and Rename. -/
import Derived.Test.YtefjbefmmmllbaaDoorVDAppend
namespace Go.Proofs.YtefjbefmmmllbaaDoor
open Go.RowKit Go.Maps

section
variable {base : Nat} {S : Nat → Prop} {w : World} {p : Nat} {room u : Int} {fs : List FileP}
theorem Does.err {r : List FileM × Int} {er : Int} (hV : VDisk base S w p room fs) {w' : World} (hb : Below w.heap.size w w') (h1 : r.1 = filesP fs) (h2 : r.2 = er) : Does base S p room r w (.returned (.int .i64 er)) w' :=
  ⟨by rw [h2], fs, h1.symm, Left.of_below hV hb⟩
theorem syncM_bad {l : List FileM} {n : ByteArray} (h : validS n = false) : syncM l n = (l, 6) := by unfold syncM; rw [getM_bad h]; simp
theorem syncM_none {l : List FileM} {n : ByteArray} (h : validS n = true) (hh : hasF l n = false) : syncM l n = (l, 8) := by unfold syncM; rw [getM_none h hh]; simp
theorem cutM_bad {l : List FileM} {n : ByteArray} {k : Int} (h : validS n = false) : cutM l n k = (l, 6) := by unfold cutM; rw [getM_bad h]; simp
theorem cutM_none {l : List FileM} {n : ByteArray} {k : Int} (h : validS n = true) (hh : hasF l n = false) : cutM l n k = (l, 8) := by unfold cutM; rw [getM_none h hh]; simp
theorem removeM_bad {l : List FileM} {n : ByteArray} (h : validS n = false) : removeM l n = (l, 6) := by unfold removeM; rw [getM_bad h]; simp
theorem removeM_none {l : List FileM} {n : ByteArray} (h : validS n = true) (hh : hasF l n = false) : removeM l n = (l, 8) := by unfold removeM; rw [getM_none h hh]; simp
theorem syncM_some {x : FileP} (hr : Rising (filesP fs)) (hx : x ∈ fs) (h : validS x.f.name = true) : syncM (filesP fs) x.f.name = (layF (filesP fs) ⟨x.f.name, x.f.b, 0⟩, 0) := by unfold syncM; rw [getP_some hr hx h]; simp
theorem cutM_some {x : FileP} {k : Int} (hr : Rising (filesP fs)) (hx : x ∈ fs) (h : validS x.f.name = true) : cutM (filesP fs) x.f.name k = (layF (filesP fs) ⟨x.f.name, x.f.b.take k.toNat, 0⟩, 0) := by unfold cutM; rw [getP_some hr hx h]; simp
theorem removeM_some {x : FileP} (hr : Rising (filesP fs)) (hx : x ∈ fs) (h : validS x.f.name = true) : removeM (filesP fs) x.f.name = (filesP (delP fs x.f.name), 0) := by unfold removeM; rw [getP_some hr hx h, filesP_delP]; simp

/-- A file that is synced. -/
def synced (x : FileP) : FileP := ⟨⟨x.f.name, x.f.b, 0⟩, x.g, x.v⟩
theorem sync_fin (hV : VDiskU base S w p room u fs) {x : FileP} (hx : x ∈ fs) : Left base S w (w.setCell ⟨x.g, 1, none⟩ (.int .i64 (x.f.b.length : Int))) p room u (layP fs (synced x)) := by
  obtain ⟨mo, hp, hm⟩ := hV.block
  have hf := hV.row.file x hx
  have hfb := hf.block
  have hne : p ≠ x.g := cells_apart hp hfb (by decide)
  have hk : Keep S w (w.setCell ⟨x.g, 1, none⟩ (.int .i64 (x.f.b.length : Int))) := (Keep.refl S w).setCell (p := ⟨x.g, 1, none⟩) (.inl hf.inS) _
  have oth : ∀ i, i ≠ x.g → (w.setCell ⟨x.g, 1, none⟩ (.int .i64 (x.f.b.length : Int))).heap[i]? = w.heap[i]? := fun i h => heap_setCell_other _ _ _ _ h
  have row5 : ∀ {y : FileP}, y ∈ fs → ∀ b, y.v.ownBlock = some b → (w.setCell ⟨x.g, 1, none⟩ (.int .i64 (x.f.b.length : Int))).heap[b]? = w.heap[b]? := fun {y} hy b hb => by
    obtain ⟨cur, hc⟩ := own_block (hV.row.file y hy).own hb
    exact oth b (cells_apart hc hfb (by decide))
  refine ⟨hk, hV.put _ hk (fun y hy hnm => ?_) ?_ (fun y hy hnm => ?_) ⟨mo, by rw [oth p hne]; exact hp, ?_⟩⟩
  · have ha := apart_of hV.row hx hy hnm
    exact ⟨oth _ fun e => ha.1 e.symm, row5 hy⟩
  · refine ⟨.inl hf.inS, ?_, hf.own.same fun b hb => row5 hx b hb, fun b hb => .inl (hf.row b hb), hf.wf.1, hf.wf.2.1, Nat.zero_le _⟩
    show (w.setCell ⟨x.g, 1, none⟩ _).heap[x.g]? = _
    rw [heap_setCell_same _ x.g 1 _ _ _ hfb]
    rfl
  · exact apart_of hV.row hx hy hnm
  · refine MapF.same (x := x) ?_ hV.row.rising hx rfl rfl
    rcases hm with hm | ⟨mb, h1, h2, h3⟩
    · exact .inl hm
    · exact .inr ⟨mb, h1, .inl h2, ownsMap_same h3 (oth mb fun e => map_apart hfb h3 e.symm)⟩
set_option maxHeartbeats 800000 in
theorem vsync_any (hV : VDisk base S w p room fs) (n : ByteArray) (hn : n.size ≤ maxLen) (hT : Tabs w) :
    Calls Tryd.prog 17 #[.pointer (some ⟨p, 0, none⟩), .string n] w (Does base S p room (syncM (filesP fs) n) w) := by
  have HV := Lib.hid hV
  cases hv : validS n with
  | false =>
    have HC := Lib.hid (vfind_bad (p := p) n hn hT hv)
    have HE := Lib.hid (syncM_bad (l := filesP fs) hv)
    clear hV hn hT hv
    go_enter Tryd.func17, Tryd.ntmps17
    go_wp2_with fail
    refine HC.out.mono ?_
    rintro e w1 ⟨rfl, hb⟩
    go_wp2
    go_ret
    exact Does.err HV.out hb (by rw [HE.out]) (by rw [HE.out])
  | true =>
    cases hh : hasF (filesP fs) n with
    | false =>
      have HC := Lib.hid (vfind_none hV n hn hT hv hh)
      have HE := Lib.hid (syncM_none hv hh)
      clear hV hn hT hv hh
      go_enter Tryd.func17, Tryd.ntmps17
      go_wp2_with fail
      refine HC.out.mono ?_
      rintro e w1 ⟨rfl, hb⟩
      go_wp2
      go_ret
      exact Does.err HV.out hb (by rw [HE.out]) (by rw [HE.out])
    | true =>
      obtain ⟨x, hx, rfl, _⟩ := has_file hh
      have HC := Lib.hid (vfind_some hV x hx _ rfl hn hT hv)
      rw [syncM_some hV.row.rising hx hv]
      have fin : ∀ w1, Below w.heap.size w w1 → (∃ A c, w1.cell? ⟨x.g, 0, none⟩ = some (.slice A x.f.b.length c)) ∧ (∃ o, w1.cell? ⟨x.g, 1, none⟩ = some (.int .i64 o)) ∧ w1.frozen? ⟨x.g, 1, none⟩ = false ∧
          ∃ fs', filesP fs' = layF (filesP fs) ⟨x.f.name, x.f.b, 0⟩ ∧ Left base S w (w1.setCell ⟨x.g, 1, none⟩ (.int .i64 (x.f.b.length : Int))) p room ((usedM (filesP fs') : Nat) : Int) fs' := fun w1 hb => by
        have hV1 := hV.below hb
        have hf := hV1.row.file x hx
        obtain ⟨A, c, hv, _⟩ := hf.own.form
        refine ⟨⟨A, c, by rw [← hv]; exact hf.cells.1⟩, ⟨_, hf.cells.2⟩, hf.thaw 1, layP fs (synced x), filesP_layP _ _, ?_⟩
        have e1 := used_over hV.row.rising (y := synced x) hx rfl
        have e2 : (synced x).f.b.length = x.f.b.length := rfl
        have e3 : usedM (filesP (layP fs (synced x))) = usedM (filesP fs) := by omega
        rw [e3]
        exact Left.behind hb (sync_fin hV1 hx) hV.within
      have FIN := Lib.hid fin
      clear fin hV hn hT hv hh hx HV
      obtain ⟨L, hL⟩ : ∃ L, x.f.b.length = L := ⟨_, rfl⟩
      obtain ⟨g, hg⟩ : ∃ g, x.g = g := ⟨_, rfl⟩
      rw [hL, hg] at FIN
      rw [hg] at HC
      obtain ⟨R, hR⟩ : ∃ R, layF (filesP fs) ⟨x.f.name, x.f.b, 0⟩ = R := ⟨_, rfl⟩
      rw [hR] at FIN ⊢
      clear hL hg hR
      go_enter Tryd.func17, Tryd.ntmps17
      go_wp2_with fail
      refine HC.out.mono ?_
      rintro e w1 ⟨rfl, hb⟩
      obtain ⟨⟨A, c, d0⟩, ⟨o, d1⟩, z1, fin⟩ := FIN.out w1 hb
      have FF := Lib.hid fin
      clear fin FIN
      go_wp2
      go_ret
      exact ⟨rfl, FF.out⟩
set_option maxHeartbeats 800000 in
theorem vcut_any (hV : VDisk base S w p room fs) (n : ByteArray) (k : Int) (hn : n.size ≤ maxLen) (hT : Tabs w) (hu : usedM (filesP fs) ≤ 1099511627776) :
    Calls Tryd.prog 19 #[.pointer (some ⟨p, 0, none⟩), .string n, .int .i64 k] w (Does base S p room (cutM (filesP fs) n k) w) := by
  have HV := Lib.hid hV
  cases hv : validS n with
  | false =>
    have HC := Lib.hid (vfind_bad (p := p) n hn hT hv)
    have HE := Lib.hid (cutM_bad (l := filesP fs) (k := k) hv)
    clear hV hn hT hv
    go_enter Tryd.func19, Tryd.ntmps19
    go_wp2_with fail
    refine HC.out.mono ?_
    rintro e w1 ⟨rfl, hb⟩
    go_wp2
    go_ret
    exact Does.err HV.out hb (by rw [HE.out]) (by rw [HE.out])
  | true =>
    cases hh : hasF (filesP fs) n with
    | false =>
      have HC := Lib.hid (vfind_none hV n hn hT hv hh)
      have HE := Lib.hid (cutM_none (k := k) hv hh)
      clear hV hn hT hv hh
      go_enter Tryd.func19, Tryd.ntmps19
      go_wp2_with fail
      refine HC.out.mono ?_
      rintro e w1 ⟨rfl, hb⟩
      go_wp2
      go_ret
      exact Does.err HV.out hb (by rw [HE.out]) (by rw [HE.out])
    | true =>
      obtain ⟨x, hx, rfl, _⟩ := has_file hh
      have HC := Lib.hid (vfind_some hV x hx _ rfl hn hT hv)
      rw [cutM_some hV.row.rising hx hv]
      have hxu := used_ge hx
      obtain ⟨m, hm, hml⟩ : ∃ m : Nat, min (max k 0) (x.f.b.length : Int) = (m : Int) ∧ m ≤ x.f.b.length := ⟨(min (max k 0) (x.f.b.length : Int)).toNat, by omega, by omega⟩
      have htk : x.f.b.take k.toNat = x.f.b.take m := by
        by_cases hk : k.toNat ≤ x.f.b.length
        · rw [show k.toNat = m by omega]
        · rw [List.take_of_length_le (by omega), List.take_of_length_le (by omega)]
      rw [htk]
      have fin : ∀ w1, Below w.heap.size w w1 → (∃ A c, w1.cell? ⟨x.g, 0, none⟩ = some (.slice A x.f.b.length c)) ∧
          Calls Tryd.prog 35 #[.pointer (some ⟨p, 0, none⟩), .pointer (some ⟨x.g, 0, none⟩), .int .i64 (m : Int)] w1 fun e w2 => e = .returned (.tuple #[]) ∧
          ∃ fs', filesP fs' = layF (filesP fs) ⟨x.f.name, x.f.b.take m, 0⟩ ∧ Left base S w w2 p room ((usedM (filesP fs') : Nat) : Int) fs' := fun w1 hb => by
        have hV1 := hV.below hb
        have hf := hV1.row.file x hx
        obtain ⟨A, c, hv, _⟩ := hf.own.form
        refine ⟨⟨A, c, by rw [← hv]; exact hf.cells.1⟩, (vkeep_any hV1 hx m hml (by omega) (by omega) (by omega)).mono ?_⟩
        rintro e w2 ⟨rfl, hk, v, hV2⟩
        refine ⟨rfl, layP fs (kept x m v), filesP_layP _ _, ?_⟩
        have e1 := used_over hV.row.rising (y := kept x m v) hx rfl
        have e2 : (kept x m v).f.b.length = m := by show (x.f.b.take m).length = m; rw [List.length_take]; omega
        have e3 : (usedM (filesP (layP fs (kept x m v))) : Int) = (usedM (filesP fs) : Int) - ((x.f.b.length : Int) - (m : Int)) := by omega
        rw [e3]
        exact Left.behind hb ⟨hk, hV2⟩ hV.within
      have FIN := Lib.hid fin
      clear fin hV hn hT hv hh hx HV hu hxu htk
      obtain ⟨L, hL⟩ : ∃ L, x.f.b.length = L := ⟨_, rfl⟩
      obtain ⟨g, hg⟩ : ∃ g, x.g = g := ⟨_, rfl⟩
      rw [hL, hg] at FIN
      rw [hg] at HC
      rw [hL] at hm
      obtain ⟨R, hR⟩ : ∃ R, layF (filesP fs) ⟨x.f.name, x.f.b.take m, 0⟩ = R := ⟨_, rfl⟩
      rw [hR] at FIN ⊢
      clear hL hg hR hml
      go_enter Tryd.func19, Tryd.ntmps19
      go_wp2_with fail
      refine HC.out.mono ?_
      rintro e w1 ⟨rfl, hb⟩
      obtain ⟨⟨A, c, d0⟩, hk⟩ := FIN.out w1 hb
      have HK := Lib.hid hk
      clear hk FIN
      go_wp2_with fail
      refine HK.out.mono ?_
      rintro e w2 ⟨rfl, fin⟩
      have FF := Lib.hid fin
      clear fin
      go_wp2
      go_ret
      exact ⟨rfl, FF.out⟩
set_option maxHeartbeats 800000 in
theorem vremove_any (hV : VDisk base S w p room fs) (n : ByteArray) (hn : n.size ≤ maxLen) (hT : Tabs w) (hu : usedM (filesP fs) ≤ 1099511627776) :
    Calls Tryd.prog 23 #[.pointer (some ⟨p, 0, none⟩), .string n] w (Does base S p room (removeM (filesP fs) n) w) := by
  have HV := Lib.hid hV
  cases hv : validS n with
  | false =>
    have HC := Lib.hid (vfind_bad (p := p) n hn hT hv)
    have HE := Lib.hid (removeM_bad (l := filesP fs) hv)
    clear hV hn hT hv
    go_enter Tryd.func23, Tryd.ntmps23
    go_wp2_with fail
    refine HC.out.mono ?_
    rintro e w1 ⟨rfl, hb⟩
    go_wp2
    go_ret
    exact Does.err HV.out hb (by rw [HE.out]) (by rw [HE.out])
  | true =>
    cases hh : hasF (filesP fs) n with
    | false =>
      have HC := Lib.hid (vfind_none hV n hn hT hv hh)
      have HE := Lib.hid (removeM_none hv hh)
      clear hV hn hT hv hh
      go_enter Tryd.func23, Tryd.ntmps23
      go_wp2_with fail
      refine HC.out.mono ?_
      rintro e w1 ⟨rfl, hb⟩
      go_wp2
      go_ret
      exact Does.err HV.out hb (by rw [HE.out]) (by rw [HE.out])
    | true =>
      obtain ⟨x, hx, rfl, _⟩ := has_file hh
      have HC := Lib.hid (vfind_some hV x hx _ rfl hn hT hv)
      rw [removeM_some hV.row.rising hx hv]
      have hxu := used_ge hx
      have fin : ∀ w1, Below w.heap.size w w1 →
          Calls Tryd.prog 43 #[.pointer (some ⟨p, 0, none⟩), .string x.f.name] w1 fun e w2 => e = .returned (.tuple #[]) ∧
          ∃ fs', filesP fs' = filesP (delP fs x.f.name) ∧ Left base S w w2 p room ((usedM (filesP fs') : Nat) : Int) fs' := fun w1 hb => by
        have hV1 := hV.below hb
        refine (vdrop_some hV1 hx x.f.name rfl hn (by omega) (by omega) (by omega)).mono ?_
        rintro e w2 ⟨rfl, hk, _, hV2⟩
        refine ⟨rfl, delP fs x.f.name, rfl, ?_⟩
        have e1 := used_del hV.row.rising hx
        have e3 : (usedM (filesP (delP fs x.f.name)) : Int) = (usedM (filesP fs) : Int) - (x.f.b.length : Int) := by omega
        rw [e3]
        exact Left.behind hb ⟨hk, hV2⟩ hV.within
      have FIN := Lib.hid fin
      clear fin hV hn hT hv hh hx HV hu hxu
      obtain ⟨g, hg⟩ : ∃ g, x.g = g := ⟨_, rfl⟩
      rw [hg] at HC
      obtain ⟨nm, hnm⟩ : ∃ nm, x.f.name = nm := ⟨_, rfl⟩
      rw [hnm] at HC FIN ⊢
      clear hg hnm
      go_enter Tryd.func23, Tryd.ntmps23
      go_wp2_with fail
      refine HC.out.mono ?_
      rintro e w1 ⟨rfl, hb⟩
      go_wp2_with fail
      refine (FIN.out w1 hb).mono ?_
      rintro e w2 ⟨rfl, fin⟩
      have FF := Lib.hid fin
      clear fin
      go_wp2
      go_ret
      exact ⟨rfl, FF.out⟩
end
end Go.Proofs.YtefjbefmmmllbaaDoor
