/- Contracts of the program's own New, find, loose, Loose, Read and Used. -/
import Derived.Test.YtefjbefmmmllbaaDoorVDisk
import Derived.Test.YtefjbefmmmllbaaDoorValid
import Derived.Test.YtefjbefmmmllbaaDoorCloneLaid
import Derived.Deep.QuietTactic
import Derived.BigQuiet
import Derived.Handy
namespace Go.Proofs.YtefjbefmmmllbaaDoor
open Go.RowKit Go.Maps

/-- The library's tables stay while blocks behind them are written. -/
theorem Tabs.past {B : Nat} {w w' : World} (h : Tabs w) (hb : Below B w w') (hB : 2 ≤ B) : Tabs w' := by
  obtain ⟨h1, h2⟩ := h
  exact ⟨fun c hc => by rw [hb.cell (by show (0 : Nat) < B; omega)]; exact h1 c hc, fun i hi => by
    rw [hb.cell (by show (1 : Nat) < B; omega), hb.cell (by show (1 : Nat) < B; omega)]
    exact h2 i hi⟩
theorem Tabs.two {w : World} (h : Tabs w) : 2 ≤ w.heap.size := by
  have := (h.2 0 (by omega)).1
  unfold World.cell? at this
  rcases Nat.lt_or_ge 1 w.heap.size with h1 | h1
  · omega
  · rw [Array.getElem?_eq_none (by exact h1)] at this
    cases this

theorem one_file {fs : List FileP} (hr : Rising (filesP fs)) {x y : FileP} (hx : x ∈ fs) (hy : y ∈ fs) (hn : x.f.name = y.f.name) : x = y := by
  induction fs with
  | nil => cases hx
  | cons a t ih =>
    rw [filesP_cons] at hr
    obtain ⟨r1, r2⟩ := List.pairwise_cons.1 hr
    rcases List.mem_cons.1 hx with ex | hx2
    · rcases List.mem_cons.1 hy with ey | hy2
      · rw [ex, ey]
      · exact absurd (by rw [ex] at hn; exact hn) (ltS_ne (r1 y.f (List.mem_map.2 ⟨y, hy2, rfl⟩)))
    · rcases List.mem_cons.1 hy with ey | hy2
      · exact absurd (by rw [ey] at hn; exact hn.symm) (ltS_ne (r1 x.f (List.mem_map.2 ⟨x, hx2, rfl⟩)))
      · exact ih r2 hx2 hy2
/-- The file of a name. -/
theorem has_file {fs : List FileP} {n : ByteArray} (h : hasF (filesP fs) n = true) : ∃ x ∈ fs, x.f.name = n ∧ (filesP fs)[findK (filesP fs) n]? = some x.f := by
  have h1 := hasF_lt h
  have h2 := hasF_name h
  rw [filesP_length] at h1
  refine ⟨fs[findK (filesP fs) n], List.getElem_mem h1, ?_, ?_⟩
  · rw [← filesP_at fs _ h1]; exact h2
  · rw [List.getElem?_eq_getElem (by rw [filesP_length]; exact h1), filesP_at fs _ h1]
theorem file_has {fs : List FileP} (hr : Rising (filesP fs)) {x : FileP} (hx : x ∈ fs) : hasF (filesP fs) x.f.name = true := hasF_mem hr (List.mem_map.2 ⟨x, hx, rfl⟩)
theorem file_at {fs : List FileP} (hr : Rising (filesP fs)) {x : FileP} (hx : x ∈ fs) : (filesP fs)[findK (filesP fs) x.f.name]? = some x.f := by
  obtain ⟨y, hy, e, h⟩ := has_file (file_has hr hx)
  rw [h, one_file hr hy hx e]
theorem not_file {fs : List FileP} {n : ByteArray} (hr : Rising (filesP fs)) (h : hasF (filesP fs) n = false) : ∀ x ∈ fs, x.f.name ≠ n := fun x hx => hasF_not hr h x.f (List.mem_map.2 ⟨x, hx, rfl⟩)

section
variable {base : Nat} {S : Nat → Prop} {w : World} {p : Nat} {room u : Int} {fs : List FileP}
set_option maxHeartbeats 800000 in
theorem vfind_bad (n : ByteArray) (hn : n.size ≤ maxLen) (hT : Tabs w) (hv : validS n = false) :
    Calls Tryd.prog 14 #[.pointer (some ⟨p, 0, none⟩), .string n] w fun e w' => e = .returned (.tuple #[.pointer none, .int .i64 6]) ∧ Below w.heap.size w w' := by
  have hc := valid_any n w hn hT
  rw [hv] at hc
  have HC := Lib.hid hc
  clear hc hv hT hn
  go_enter Tryd.func14, Tryd.ntmps14
  go_wp2_with fail
  refine HC.out.mono ?_
  rintro e w1 ⟨rfl, hb⟩
  go_wp2
  go_ret2
  exact ⟨rfl, hb⟩
set_option maxHeartbeats 800000 in
theorem vfind_none (hV : VDiskU base S w p room u fs) (n : ByteArray) (hn : n.size ≤ maxLen) (hT : Tabs w) (hv : validS n = true) (hh : hasF (filesP fs) n = false) :
    Calls Tryd.prog 14 #[.pointer (some ⟨p, 0, none⟩), .string n] w fun e w' => e = .returned (.tuple #[.pointer none, .int .i64 8]) ∧ Below w.heap.size w w' := by
  have hc := valid_any n w hn hT
  rw [hv] at hc
  have HC := Lib.hid hc
  have hno := not_file hV.row.rising hh
  have look : ∀ w1, Below w.heap.size w w1 → ∃ mo, w1.cell? ⟨p, 2, none⟩ = some (.map mo) ∧ (Instr.lookup 42 (.map mo) (.string n) false).run Tryd.prog w1 = .ok (.pointer none) w1 := fun w1 hb => by
    obtain ⟨mo, _, _, c2, hm⟩ := (hV.below hb).cells
    exact ⟨mo, c2, (hm.look hV.row.rising hn).2 hno⟩
  have LK := Lib.hid look
  clear hc hv hT hn hV look hno hh
  go_enter Tryd.func14, Tryd.ntmps14
  go_wp2_with fail
  refine HC.out.mono ?_
  rintro e w1 ⟨rfl, hb⟩
  obtain ⟨mo, c2, hl⟩ := LK.out w1 hb
  go_wp2
  go_ret2
  exact ⟨rfl, hb⟩
set_option maxHeartbeats 800000 in
theorem vfind_some (hV : VDiskU base S w p room u fs) (x : FileP) (hx : x ∈ fs) (n : ByteArray) (hxn : x.f.name = n) (hn : n.size ≤ maxLen) (hT : Tabs w) (hv : validS n = true) :
    Calls Tryd.prog 14 #[.pointer (some ⟨p, 0, none⟩), .string n] w fun e w' => e = .returned (.tuple #[.pointer (some ⟨x.g, 0, none⟩), .int .i64 0]) ∧ Below w.heap.size w w' := by
  have hc := valid_any n w hn hT
  rw [hv] at hc
  have HC := Lib.hid hc
  have look : ∀ w1, Below w.heap.size w w1 → ∃ mo, w1.cell? ⟨p, 2, none⟩ = some (.map mo) ∧ (Instr.lookup 42 (.map mo) (.string n) false).run Tryd.prog w1 = .ok (.pointer (some ⟨x.g, 0, none⟩)) w1 := fun w1 hb => by
    obtain ⟨mo, _, _, c2, hm⟩ := (hV.below hb).cells
    exact ⟨mo, c2, (hm.look hV.row.rising hn).1 x hx hxn⟩
  have LK := Lib.hid look
  generalize x.g = g at *
  clear hc hv hT hn hV look hxn hx
  go_enter Tryd.func14, Tryd.ntmps14
  go_wp2_with fail
  refine HC.out.mono ?_
  rintro e w1 ⟨rfl, hb⟩
  obtain ⟨mo, c2, hl⟩ := LK.out w1 hb
  go_wp2
  go_ret2
  exact ⟨rfl, hb⟩

set_option maxHeartbeats 400000 in
theorem vused_any (hV : VDiskU base S w p room u fs) : Calls Tryd.prog 29 #[.pointer (some ⟨p, 0, none⟩)] w fun e w' => e = .returned (.int .i64 u) ∧ w = w' := by
  obtain ⟨mo, _, c1, _, _⟩ := hV.cells
  clear hV
  go_enter Tryd.func29, Tryd.ntmps29
  go_wp2
  go_ret
  exact ⟨rfl, rfl⟩
set_option maxHeartbeats 400000 in
theorem vnew_any (room : Int) (w : World) : Calls Tryd.prog 6 #[.int .i64 room] w fun e w' => e = .returned (.pointer (some ⟨w.heap.size, 0, none⟩)) ∧ w' = w.alloc (.cells (diskCells (max room 0) 0 none) 44) := by
  unfold diskCells
  go_enter Tryd.func6, Tryd.ntmps6
  go_wp2
  go_ret
  exact ⟨rfl, rfl⟩
/-- A new disk. -/
theorem vnew_disk (base : Nat) (w : World) (room : Int) (hb : base ≤ w.heap.size) : VDisk base (fun i => i = w.heap.size) (w.alloc (.cells (diskCells room 0 none) 44)) w.heap.size room [] := by
  refine ⟨⟨by simp; omega, fun i hi => by subst hi; simp; omega⟩, rfl, ⟨none, ?_, .inl ⟨rfl, rfl⟩⟩, ⟨fun x hx => (List.not_mem_nil hx).elim, List.Pairwise.nil, List.Pairwise.nil⟩⟩
  show (w.heap.push _)[w.heap.size]? = _
  simp
  rfl
set_option maxHeartbeats 400000 in
theorem vfloose_any {x : FileP} (hf : VFile base S w x) : Calls Tryd.prog 34 #[.pointer (some ⟨x.g, 0, none⟩)] w fun e w' => e = .returned (.int .i64 (x.f.loose : Int)) ∧ ∃ m, w' = w.drewN m := by
  obtain ⟨c0, c1⟩ := hf.cells
  obtain ⟨A, c, hv, hl1, hl2⟩ := hf.own.form
  have hw := hf.wf.2.2
  unfold maxLen at hl2
  rw [hv] at c0
  clear hf hv
  obtain ⟨L, hL⟩ : ∃ L, x.f.b.length = L := ⟨_, rfl⟩
  obtain ⟨K, hK⟩ : ∃ K, x.f.loose = K := ⟨_, rfl⟩
  obtain ⟨g, hg⟩ : ∃ g, x.g = g := ⟨_, rfl⟩
  rw [hL, hK] at c1
  rw [hL] at c0 hl1
  rw [hK, hL] at hw
  rw [hg] at c0 c1 ⊢
  rw [hK]
  obtain ⟨M, hM⟩ : ∃ M, L - K = M := ⟨_, rfl⟩
  rw [hM] at c1
  have HE := Lib.hid (show (L : Int) - (M : Int) = (K : Int) by omega)
  have hwr : wrap64 ((L : Int) - (M : Int)) = (L : Int) - (M : Int) := by
    unfold wrap64
    omega
  clear hL hK hg hM
  go_enter Tryd.func34, Tryd.ntmps34
  go_wp2_with fail
  go_quiet (fail)
  go_wp2
  go_ret
  exact ⟨by show Ending.returned (.int .i64 (wrap64 ((L : Int) - (M : Int)))) = _; rw [hwr, HE.out], _, rfl⟩

theorem getP_some {x : FileP} (hr : Rising (filesP fs)) (hx : x ∈ fs) (h : validS x.f.name = true) : getM (filesP fs) x.f.name = (x.f, 0) := by
  unfold getM
  rw [if_neg (by rw [h]; simp), if_pos (file_has hr hx), file_at hr hx]
  rfl
set_option maxHeartbeats 800000 in
theorem vloose_any (hV : VDiskU base S w p room u fs) (n : ByteArray) (hn : n.size ≤ maxLen) (hT : Tabs w) :
    Calls Tryd.prog 27 #[.pointer (some ⟨p, 0, none⟩), .string n] w fun e w' => e = .returned (.int .i64 ((getM (filesP fs) n).1.loose : Int)) ∧ Below w.heap.size w w' := by
  cases hv : validS n with
  | false =>
    have HC := Lib.hid (vfind_bad (p := p) n hn hT hv)
    rw [getM_bad hv]
    clear hV hn hT hv
    go_enter Tryd.func27, Tryd.ntmps27
    go_wp2_with fail
    refine HC.out.mono ?_
    rintro e w1 ⟨rfl, hb⟩
    go_wp2
    go_ret
    exact ⟨rfl, hb⟩
  | true =>
    cases hh : hasF (filesP fs) n with
    | false =>
      have HC := Lib.hid (vfind_none hV n hn hT hv hh)
      rw [getM_none hv hh]
      clear hV hn hT hv hh
      go_enter Tryd.func27, Tryd.ntmps27
      go_wp2_with fail
      refine HC.out.mono ?_
      rintro e w1 ⟨rfl, hb⟩
      go_wp2
      go_ret
      exact ⟨rfl, hb⟩
    | true =>
      obtain ⟨x, hx, rfl, _⟩ := has_file hh
      have HC := Lib.hid (vfind_some hV x hx _ rfl hn hT hv)
      rw [getP_some hV.row.rising hx hv]
      have hf : ∀ w1, Below w.heap.size w w1 → VFile base S w1 x := fun w1 hb => (hV.below hb).row.file x hx
      have HF := Lib.hid hf
      clear hV hn hT hv hh hf hx
      go_enter Tryd.func27, Tryd.ntmps27
      go_wp2_with fail
      refine HC.out.mono ?_
      rintro e w1 ⟨rfl, hb⟩
      go_wp2_with fail
      refine (vfloose_any (HF.out w1 hb)).mono ?_
      rintro e w2 ⟨rfl, m, rfl⟩
      go_wp2
      go_ret
      exact ⟨rfl, ⟨hb.os, hb.tape, hb.output, hb.size, hb.block⟩⟩
/-- What Read answers. -/
def TellsR (r : FileM × Int) (w : World) (e : Ending) (w' : World) : Prop := ∃ v, e = .returned (.tuple #[v, .int .i64 r.2]) ∧ Own .u8 5 w' w.heap.size v r.1.b ∧ Below w.heap.size w w'
set_option maxHeartbeats 800000 in
theorem vread_any (hV : VDiskU base S w p room u fs) (n : ByteArray) (hn : n.size ≤ maxLen) (hT : Tabs w) (hu : ∀ x ∈ fs, x.f.b.length ≤ 549755813888) :
    Calls Tryd.prog 12 #[.pointer (some ⟨p, 0, none⟩), .string n] w (TellsR (getM (filesP fs) n) w) := by
  cases hv : validS n with
  | false =>
    have HC := Lib.hid (vfind_bad (p := p) n hn hT hv)
    rw [getM_bad hv]
    clear hV hn hT hv
    go_enter Tryd.func12, Tryd.ntmps12
    go_wp2_with fail
    refine HC.out.mono ?_
    rintro e w1 ⟨rfl, hb⟩
    go_wp2
    go_ret2
    exact ⟨_, rfl, Own.nil, hb⟩
  | true =>
    cases hh : hasF (filesP fs) n with
    | false =>
      have HC := Lib.hid (vfind_none hV n hn hT hv hh)
      rw [getM_none hv hh]
      clear hV hn hT hv hh
      go_enter Tryd.func12, Tryd.ntmps12
      go_wp2_with fail
      refine HC.out.mono ?_
      rintro e w1 ⟨rfl, hb⟩
      go_wp2
      go_ret2
      exact ⟨_, rfl, Own.nil, hb⟩
    | true =>
      obtain ⟨x, hx, rfl, _⟩ := has_file hh
      have HC := Lib.hid (vfind_some hV x hx _ rfl hn hT hv)
      rw [getP_some hV.row.rising hx hv]
      have hf : ∀ w1, Below w.heap.size w w1 → VFile base S w1 x := fun w1 hb => (hV.below hb).row.file x hx
      have HF := Lib.hid hf
      have HU := Lib.hid (hu x hx)
      clear hV hn hT hv hh hf hx hu
      go_enter Tryd.func12, Tryd.ntmps12
      go_wp2_with fail
      refine HC.out.mono ?_
      rintro e w1 ⟨rfl, hb⟩
      obtain ⟨c0, _⟩ := (HF.out w1 hb).cells
      obtain ⟨A, c, hv, _⟩ := (HF.out w1 hb).own.form
      rw [hv] at c0
      have HCL := Lib.hid (bclone_any _ _ _ w1 (HF.out w1 hb).own HU.out)
      rw [hv] at HCL
      clear hv
      go_wp2_with fail
      refine HCL.out.mono ?_
      rintro e w2 ⟨v, rfl, ho, hb2⟩
      go_wp2
      go_ret2
      exact ⟨_, rfl, ho.lower hb.size, hb.trans (hb2.mono hb.size)⟩
end
end Go.Proofs.YtefjbefmmmllbaaDoor
