/- A contract of the document's own put. -/
import Derived.Test.YtefjbefmmmllbaaDoorRDPut
namespace Go.Proofs.YtefjbefmmmllbaaDoor
open Go.RowKit

theorem NewRow.since {w w' W : World} {v : Value} {xs : List FileV} (h : NewRow w' W v xs) (hb : Below w.heap.size w w') : NewRow w W v xs := by
  refine ⟨⟨h.1.1, ?_⟩, hb.trans (h.2.mono hb.size)⟩
  rcases h.1.2 with h1 | ⟨g, cap, cur, e, h2, h3⟩
  · exact .inl h1
  · exact .inr ⟨g, cap, cur, e, Nat.le_trans hb.size h2, h3⟩
/-- A row without its first files, as the model lays it. -/
theorem files_from {w : World} {A : Option Addr} {fs : List FileV} {c tl : Nat} (hl : FilesLie w A fs) (hcc : fs.length ≤ c) (hAn : A = none → c = 0) (ht : tl ≤ fs.length) :
    ∃ A', (∀ W : World, (Instr.slice 45 (.slice A fs.length c) (some (.int .i64 (tl : Int))) none none).run Tryd.prog W = .ok (.slice A' (fs.length - tl) (c - tl)) W) ∧ (∀ W, Below w.heap.size w W → FilesLie W A' (fs.drop tl)) ∧ (A' = none → c - tl = 0) := by
  refine ⟨if c = tl then A else A.map (·.add (tl * 3)), fun W => ?_, fun W hb => (hl.below hb).drop ht hcc, fun h => ?_⟩
  · have he : Tryd.prog.elem 45 = 74 := by kernel_rfl
    rw [run_slice_l W 45 A fs.length c (by rw [he]; exact Tryd.underlying45) .i64 (tl : Int) (by omega) (by omega), he, Tryd.sizeOf74 W]
    simp only [Result.andThen, sliced, Int.toNat_natCast]
  · split at h
    · omega
    · rcases A with _ | ad
      · have := hAn rfl; omega
      · simp at h
section
variable {base : Nat} {S : Nat → Prop} {w : World} {p : Nat} {room : Int} {fs : List FileV}
set_option maxHeartbeats 6400000 in
set_option maxRecDepth 4000 in
theorem rput_any (hR : RDisk base S w p room fs) (x : FileV) (hx : SlIn S w x.2 x.1.b) (hwf : x.1.wf) (hlen : fs.length ≤ 1000000000) :
    Calls Tryd.prog 41 #[.pointer (some ⟨p, 0, none⟩), .agg #[.string x.1.name, x.2, .int .i64 (x.1.loose : Int)]] w fun e w' => e = .returned (.tuple #[]) ∧ RLeft base S w w' p room (layV fs x) := by
  obtain ⟨A, c, c0, c1, hcc, hcm, hAn, hfs⟩ := hR.cells
  have hlie : FilesLie w A fs := by
    obtain ⟨_, _, lv, hp, hr⟩ := hR
    have : w.cell? ⟨p, 1, none⟩ = some lv := by unfold World.cell?; rw [hp]; rfl
    rw [c1] at this
    injection this with this
    subst this
    exact row_lies hr.1
  have hsl : ∀ y ∈ fs, SlIn S w y.2 y.1.b ∧ y.1.wf := fun y hy => by obtain ⟨_, _, _, _, hr⟩ := hR; exact hr.2.2 y hy
  have hshape : ∀ {y : FileV}, SlIn S w y.2 y.1.b → ∃ A n c, y.2 = .slice A n c := fun {y} h => by obtain ⟨A, c, e, _⟩ := h; exact ⟨A, _, c, e⟩
  have hpl : p < w.heap.size := (hR.1.2 p hR.2.1).2
  have hpf : ∀ W, Below w.heap.size w W → W.frozen? ⟨p, 1, none⟩ = false := fun W hb => by
    obtain ⟨_, _, lv, hp, _⟩ := hR
    have : W.heap[p]? = some (.cells #[.int .i64 room, lv] 47 (0, 0)) := by rw [hb.block p hpl]; exact hp
    simp [World.frozen?, this]
  obtain ⟨Ab, nb, cb, hbv⟩ := hshape hx
  obtain ⟨k, hk⟩ : ∃ k, findK (filesOf fs) x.1.name = k := ⟨_, rfl⟩
  obtain ⟨tl, htl⟩ : ∃ tl, tailK (filesOf fs) x.1.name = tl := ⟨_, rfl⟩
  obtain ⟨H, hH⟩ : ∃ H, hasF (filesOf fs) x.1.name = H := ⟨_, rfl⟩
  have hkl : k ≤ fs.length := by rw [← hk, ← filesOf_length fs]; exact findK_le _ _
  have htll : tl ≤ fs.length := by rw [← htl, ← filesOf_length fs]; exact tailK_le _ _
  have htk : (fs.take k).length = k := by rw [List.length_take]; omega
  have htlk : tl = if H = true then k + 1 else k := by rw [← htl, ← hk, ← hH]; rfl
  have elay : layV fs x = (fs.take k ++ [x]) ++ fs.drop tl := by unfold layV; rw [hk, htl]; simp
  rw [elay]
  have hbx : Below w.heap.size w (w.alloc (.cells #[.string x.1.name, x.2, .int .i64 (x.1.loose : Int)] 74)) := (Below.refl _ _).alloc (Nat.le_refl _) _
  have hfind := rfind_any base S _ p room fs x.1.name (hR.below hbx)
  rw [hk, hH] at hfind
  obtain ⟨A', hslc, hdrop, hdn⟩ := files_from (hlie.below hbx) hcc hAn htll
  have HFIN := Lib.hid (fun (W : World) (v : Value) (h : NewRow (w.alloc (.cells #[.string x.1.name, x.2, .int .i64 (x.1.loose : Int)] 74)) W v ((fs.take k ++ [x]) ++ fs.drop tl)) => row_fin hR (h.since hbx) fun y hy => by
    rcases List.mem_append.1 hy with hy | hy
    · rcases List.mem_append.1 hy with hy | hy
      · exact hsl y (List.mem_of_mem_take hy)
      · rw [List.mem_singleton.1 hy]; exact ⟨hx, hwf⟩
    · exact hsl y (List.mem_of_mem_drop hy))
  have HPF := Lib.hid (fun (W : World) (hb : Below (w.alloc (.cells #[.string x.1.name, x.2, .int .i64 (x.1.loose : Int)] 74)).heap.size (w.alloc (.cells #[.string x.1.name, x.2, .int .i64 (x.1.loose : Int)] 74)) W) => hpf W (hbx.trans (hb.mono hbx.size)))
  have HTL := Lib.hid (fun (W : World) (hb : Below (w.alloc (.cells #[.string x.1.name, x.2, .int .i64 (x.1.loose : Int)] 74)).heap.size (w.alloc (.cells #[.string x.1.name, x.2, .int .i64 (x.1.loose : Int)] 74)) W) => ((hlie.below hbx).below hb).take k)
  have HDR := Lib.hid hdrop
  have HDN := Lib.hid hdn
  have HST := Lib.hid (fun (y : FileV) (hy : y ∈ fs.take k) => hshape (hsl y (List.mem_of_mem_take hy)).1)
  have HSS := Lib.hid (fun (y : FileV) (hy : y ∈ fs.drop tl) => hshape (hsl y (List.mem_of_mem_drop hy)).1)
  have HSL := Lib.hid (hshape hx)
  have g0 : ∀ (W : World), Below (w.alloc (.cells #[.string x.1.name, x.2, .int .i64 (x.1.loose : Int)] 74)).heap.size (w.alloc (.cells #[.string x.1.name, x.2, .int .i64 (x.1.loose : Int)] 74)) W →
      W.cell? ⟨p, 1, none⟩ = some (.slice A fs.length c) ∧ W.cell? ⟨w.heap.size, 0, none⟩ = some (.string x.1.name) ∧ W.cell? ⟨w.heap.size, 1, none⟩ = some x.2 ∧ W.cell? ⟨w.heap.size, 2, none⟩ = some (.int .i64 (x.1.loose : Int)) := fun W hb => by
    have e : (w.alloc (.cells #[.string x.1.name, x.2, .int .i64 (x.1.loose : Int)] 74)).heap[w.heap.size]? = some (.cells #[.string x.1.name, x.2, .int .i64 (x.1.loose : Int)] 74) := by
      show (w.heap.push _)[w.heap.size]? = _
      simp
    have e2 : W.heap[w.heap.size]? = some (.cells #[.string x.1.name, x.2, .int .i64 (x.1.loose : Int)] 74) := by rw [hb.block _ (by simp)]; exact e
    refine ⟨((hbx.trans (hb.mono hbx.size)).cell hpl).trans c1, ?_, ?_, ?_⟩ <;> (unfold World.cell?; rw [e2]; rfl)
  have HH := Lib.hid g0
  have HTK := Lib.hid htk
  obtain ⟨N4, hN4⟩ : ∃ n, ((fs.take k ++ [x]) ++ fs.drop tl).length = n := ⟨_, rfl⟩
  have HN4 := Lib.hid hN4
  clear hN4
  have HLN := Lib.hid hlen
  have HKL := Lib.hid hkl
  have HCC := Lib.hid hcc
  have HAN := Lib.hid hAn
  have hk9 : k ≤ 1000000000 := by omega
  have hkc : k ≤ c := by omega
  have hkt : tl ≤ fs.length := htll
  have htl9 : tl ≤ 1000000000 := by omega
  clear g0 hdrop hdn hpf hpl hsl hshape hlie elay htl hk hH htk hlen hfs c0 c1 hR hx hwf hAn hbx hkl htll
  obtain ⟨nm, hnm⟩ : ∃ nm, x.1.name = nm := ⟨_, rfl⟩
  obtain ⟨lo, hlo⟩ : ∃ lo, x.1.loose = lo := ⟨_, rfl⟩
  rw [hnm, hbv, hlo] at HFIN HPF HTL HDR HH hfind
  rw [hnm, hbv, hlo]
  have HX1 := Lib.hid hnm
  have HX2 := Lib.hid hbv
  have HX3 := Lib.hid hlo
  clear hnm hbv hlo
  obtain ⟨wb, hwb⟩ : ∃ wb, w.alloc (.cells #[.string nm, .slice Ab nb cb, .int .i64 (lo : Int)] 74) = wb := ⟨_, rfl⟩
  rw [hwb] at HFIN HPF HTL HDR HH hfind
  have HF := Lib.hid hfind
  have HWB := Lib.hid hwb
  have hc0 := (HH.out wb (Below.refl _ _)).2.1
  rw [← hwb] at hc0
  clear hfind hwb
  go_enter Tryd.func41, Tryd.ntmps41
  go_wp2_with fail
  clear hc0
  rw [HWB.out]
  refine HF.out.mono ?_
  rintro e W00 ⟨rfl, m0, rfl⟩
  obtain ⟨g, hg⟩ : ∃ g, w.heap.size = g := ⟨_, rfl⟩
  rw [hg] at HH ⊢
  have HB00 := Lib.hid (below_drewN (Below.refl wb.heap.size wb) m0)
  clear hg HF HWB
  generalize wb.drewN m0 = W00 at *
  have HB0 := Lib.hid (show Below wb.heap.size wb W00.drew from below_drewN HB00.out 1)
  have hHeld := HH.out _ HB0.out
  cases H with
  | true =>
    have hkt2 : (k : Int) + 1 = (tl : Int) := by have h : tl = k + 1 := htlk; omega
    have hkt3 : k + 1 = tl := htlk.symm
    clear htlk
    go_wp2_with fail
    refine wp_region_held_drew (S := fun W => W.cell? ⟨p, 1, none⟩ = some (.slice A fs.length c) ∧ W.cell? ⟨g, 0, none⟩ = some (.string nm) ∧ W.cell? ⟨g, 1, none⟩ = some (.slice Ab nb cb) ∧ W.cell? ⟨g, 2, none⟩ = some (.int .i64 (lo : Int))) (by kernel_rfl) hHeld (fun hHeld => ?_)
    generalize W00.drew = W0 at *
    refine held_take 0 19 (v := ?v100) rfl rfl (by kernel_rfl) (by kernel_rfl) (by kernel_rfl) (fun _ _ _ h => h) hHeld (Or.inl ⟨by rfl, ?y100⟩) ?r100
    case y100 => intro w hSw; (try dsimp only at hSw); go_simp; (try with_reducible rfl)
    simp only [List.setIfInBounds_toArray, List.set_cons_zero, List.set_cons_succ]
    refine held_take 1 20 (v := ?v101) rfl rfl (by kernel_rfl) (by kernel_rfl) (by kernel_rfl) (fun _ _ _ h => h) hHeld (Or.inl ⟨by rfl, ?y101⟩) ?r101
    case y101 => intro w hSw; (try dsimp only at hSw); go_simp; (try with_reducible rfl)
    simp only [List.setIfInBounds_toArray, List.set_cons_zero, List.set_cons_succ]
    refine held_take 2 21 (v := ?v102) rfl rfl (by kernel_rfl) (by kernel_rfl) (by kernel_rfl) (fun _ _ _ h => h) hHeld (Or.inl ⟨by rfl, ?y102⟩) ?r102
    case y102 => intro w hSw; (try dsimp only at hSw); go_simp; (try with_reducible rfl)
    simp only [List.setIfInBounds_toArray, List.set_cons_zero, List.set_cons_succ]
    refine held_take 3 22 (v := ?v103) rfl rfl (by kernel_rfl) (by kernel_rfl) (by kernel_rfl) (fun _ _ _ h => h) hHeld (Or.inl ⟨by rfl, ?y103⟩) ?r103
    case y103 => intro w hSw; (try dsimp only at hSw); go_simp; (try with_reducible rfl)
    simp only [List.setIfInBounds_toArray, List.set_cons_zero, List.set_cons_succ]
    refine held_take 4 23 (v := ?v104) rfl rfl (by kernel_rfl) (by kernel_rfl) (by kernel_rfl) (fun _ _ _ h => h) hHeld (Or.inl ⟨by rfl, ?y104⟩) ?r104
    case y104 => intro w hSw; (try dsimp only at hSw); go_simp; (try with_reducible rfl)
    simp only [List.setIfInBounds_toArray, List.set_cons_zero, List.set_cons_succ]
    refine held_take 5 24 (v := ?v105) rfl rfl (by kernel_rfl) (by kernel_rfl) (by kernel_rfl) (fun _ _ _ h => h) hHeld (Or.inl ⟨by rfl, ?y105⟩) ?r105
    case y105 => intro w hSw; (try dsimp only at hSw); go_simp; (try with_reducible rfl)
    simp only [List.setIfInBounds_toArray, List.set_cons_zero, List.set_cons_succ]
    refine held_take 7 26 (v := ?v106) rfl rfl (by kernel_rfl) (by kernel_rfl) (by kernel_rfl) (fun _ _ _ h => h) hHeld (Or.inl ⟨by rfl, ?y106⟩) ?r106
    case y106 => intro w hSw; (try dsimp only at hSw); go_simp; (try with_reducible rfl)
    simp only [List.setIfInBounds_toArray, List.set_cons_zero, List.set_cons_succ]
    refine wpAnyH_ready (rs := [6, 8]) (by kernel_rfl) (by simp) ?_
    refine AllReadyH.cons (o := ⟨some 25, _, _, _, _, _⟩) rfl (fun K hK => ?_) (AllReadyH.cons (o := ⟨some 27, _, _, _, _, _⟩) rfl (fun K hK => ?_) AllReadyH.nil)
    · rw [if_pos (by rfl)]
      refine wp_files (.const (.slice none 0 0)) (.tmp 24) rfl _ _ rfl rfl (newrow_append (newrow_nil HB0.out) (ys := fs.take k) (c := c) HTK.out (by have := HKL.out; have := HCC.out; omega) (HTL.out _ HB0.out) HST.out (by rw [HTK.out]; have := HLN.out; have := HKL.out; simp; omega) HAN.out) ?_
      rintro v2 W2 ⟨hr2, _⟩
      rw [List.nil_append] at hr2
      refine hK.out _ _ (HH.out _ hr2.2) (fun _ => ?_)
      clear hK K hHeld
      have hHeld := HH.out _ hr2.2
      (try simp only [Act.put, List.setIfInBounds_toArray, List.set_cons_zero, List.set_cons_succ])
      refine wpAnyH_ready (rs := [8]) (by kernel_rfl) (by simp) ?_
      refine AllReadyH.cons rfl (fun K hK => ?_) AllReadyH.nil
      go_simp
      have hone := one_lies W2 x
      obtain ⟨A2, c2, rfl, _⟩ := row_form3 hr2.1
      replace hr2 := hr2.alloc (.cells #[.string x.1.name, x.2, .int .i64 (x.1.loose : Int)] 74)
      rw [HX1.out, HX2.out, HX3.out] at hone hr2
      refine hK.out _ _ (HH.out _ hr2.2) (fun _ => ?_)
      clear hK K hHeld
      have hHeld := HH.out _ hr2.2
      (try simp only [Act.put, List.setIfInBounds_toArray, List.set_cons_zero, List.set_cons_succ])
      refine wpAnyH_ready (rs := [9]) (by kernel_rfl) (by simp) ?_
      refine AllReadyH.cons (o := ⟨some 28, _, _, _, _, _⟩) rfl (fun K hK => ?_) AllReadyH.nil
      rw [if_pos (by rfl)]
      refine wp_files (.tmp 25) (.tmp 27) rfl _ _ rfl rfl (newrow_append hr2 (A := some ⟨W2.heap.size, 0, none⟩) (ys := [x]) (c := 1) rfl (Nat.le_refl _) hone (fun y hy => by rw [List.mem_singleton.1 hy]; exact HSL.out) (by rw [HTK.out]; have := HLN.out; simp; omega) (by simp)) ?_
      rintro v3 W3 ⟨hr3, _⟩
      refine hK.out _ _ (HH.out _ hr3.2) (fun _ => ?_)
      clear hK K
      have hHeld := HH.out _ hr3.2
      (try simp only [Act.put, List.setIfInBounds_toArray, List.set_cons_zero, List.set_cons_succ])
      refine held_take 10 7 (v := ?v120) rfl rfl (by kernel_rfl) (by kernel_rfl) (by kernel_rfl) (fun _ _ _ h => h) hHeld (Or.inl ⟨by rfl, ?y120⟩) ?r120
      case y120 => intro w hSw; (try dsimp only at hSw); go_simp; (try with_reducible rfl)
      simp only [List.setIfInBounds_toArray, List.set_cons_zero, List.set_cons_succ]
      refine wpAnyH_done (by kernel_rfl) ?_ _
      clear hHeld hr2 hone
      obtain ⟨A3, c3, rfl, _⟩ := row_form3 hr3.1
      have hcp3 : W3.cell? ⟨p, 1, none⟩ = some (.slice A fs.length c) := (HH.out _ hr3.2).1
      have T3 := Lib.hid (newrow_append hr3 (ys := fs.drop tl) (m := fs.length - tl) (c := c - tl) List.length_drop (by have := HCC.out; omega) (HDR.out W3 hr3.2) HSS.out (by have := HLN.out; rw [List.length_append, HTK.out, List.length_drop]; simp; omega) HDN.out)
      have hb3 := hr3.2
      clear hr3 hk9 hkc hcc
      go_wp2_with (at_builtin; refine wpList_files rfl (.tmp 30) (.tmp 36) rfl _ _ rfl rfl T3.out ?_; rintro v4 W4 ⟨hr4, _⟩; obtain ⟨A4, c4, h4e, _⟩ := row_form3 hr4.1; rw [HN4.out] at h4e; subst h4e; have hcp4 : W4.cell? ⟨p, 1, none⟩ = some (.slice A fs.length c) := (HH.out _ hr4.2).1; have hpf4 := HPF.out W4 hr4.2; have FN := Lib.hid (HFIN.out W4 _ hr4); clear hr4 hcp3 hb3 T3)
      go_end0
      exact ⟨rfl, FN.out⟩
    · rw [if_pos (by rfl)]
      go_simp
      have hb1 : Below wb.heap.size wb (W0.alloc (.cells #[.string nm, .slice Ab nb cb, .int .i64 (lo : Int)] 74)) := HB0.out.alloc HB0.out.size _
      refine hK.out _ _ (HH.out _ hb1) (fun _ => ?_)
      clear hK K hHeld
      have hHeld := HH.out _ hb1
      (try simp only [Act.put, List.setIfInBounds_toArray, List.set_cons_zero, List.set_cons_succ])
      refine wpAnyH_ready (rs := [6]) (by kernel_rfl) (by simp) ?_
      refine AllReadyH.cons (o := ⟨some 25, _, _, _, _, _⟩) rfl (fun K hK => ?_) AllReadyH.nil
      rw [if_pos (by rfl)]
      refine wp_files (.const (.slice none 0 0)) (.tmp 24) rfl _ _ rfl rfl (newrow_append (newrow_nil hb1) (ys := fs.take k) (c := c) HTK.out (by have := HKL.out; have := HCC.out; omega) (HTL.out _ hb1) HST.out (by rw [HTK.out]; have := HLN.out; have := HKL.out; simp; omega) HAN.out) ?_
      rintro v2 W2 ⟨hr2, hg2⟩
      rw [List.nil_append] at hr2
      have hone := one_lies W0 x
      rw [HX1.out, HX2.out, HX3.out] at hone
      replace hone := hone.below (w' := W2) ⟨hg2.os, hg2.tape, hg2.output, hg2.size, fun i hi => hg2.block i hi (by simp [Value.ownBlock])⟩
      obtain ⟨A2, c2, rfl, _⟩ := row_form3 hr2.1
      refine hK.out _ _ (HH.out _ hr2.2) (fun _ => ?_)
      clear hK K hHeld hg2
      have hHeld := HH.out _ hr2.2
      (try simp only [Act.put, List.setIfInBounds_toArray, List.set_cons_zero, List.set_cons_succ])
      refine wpAnyH_ready (rs := [9]) (by kernel_rfl) (by simp) ?_
      refine AllReadyH.cons (o := ⟨some 28, _, _, _, _, _⟩) rfl (fun K hK => ?_) AllReadyH.nil
      rw [if_pos (by rfl)]
      refine wp_files (.tmp 25) (.tmp 27) rfl _ _ rfl rfl (newrow_append hr2 (A := some ⟨W0.heap.size, 0, none⟩) (ys := [x]) (c := 1) rfl (Nat.le_refl _) hone (fun y hy => by rw [List.mem_singleton.1 hy]; exact HSL.out) (by rw [HTK.out]; have := HLN.out; simp; omega) (by simp)) ?_
      rintro v3 W3 ⟨hr3, _⟩
      refine hK.out _ _ (HH.out _ hr3.2) (fun _ => ?_)
      clear hK K
      have hHeld := HH.out _ hr3.2
      (try simp only [Act.put, List.setIfInBounds_toArray, List.set_cons_zero, List.set_cons_succ])
      refine held_take 10 7 (v := ?v140) rfl rfl (by kernel_rfl) (by kernel_rfl) (by kernel_rfl) (fun _ _ _ h => h) hHeld (Or.inl ⟨by rfl, ?y140⟩) ?r140
      case y140 => intro w hSw; (try dsimp only at hSw); go_simp; (try with_reducible rfl)
      simp only [List.setIfInBounds_toArray, List.set_cons_zero, List.set_cons_succ]
      refine wpAnyH_done (by kernel_rfl) ?_ _
      clear hHeld hr2 hone
      obtain ⟨A3, c3, rfl, _⟩ := row_form3 hr3.1
      have hcp3 : W3.cell? ⟨p, 1, none⟩ = some (.slice A fs.length c) := (HH.out _ hr3.2).1
      have T3 := Lib.hid (newrow_append hr3 (ys := fs.drop tl) (m := fs.length - tl) (c := c - tl) List.length_drop (by have := HCC.out; omega) (HDR.out W3 hr3.2) HSS.out (by have := HLN.out; rw [List.length_append, HTK.out, List.length_drop]; simp; omega) HDN.out)
      have hb3 := hr3.2
      clear hr3 hk9 hkc hcc
      go_wp2_with (at_builtin; refine wpList_files rfl (.tmp 30) (.tmp 36) rfl _ _ rfl rfl T3.out ?_; rintro v4 W4 ⟨hr4, _⟩; obtain ⟨A4, c4, h4e, _⟩ := row_form3 hr4.1; rw [HN4.out] at h4e; subst h4e; have hcp4 : W4.cell? ⟨p, 1, none⟩ = some (.slice A fs.length c) := (HH.out _ hr4.2).1; have hpf4 := HPF.out W4 hr4.2; have FN := Lib.hid (HFIN.out W4 _ hr4); clear hr4 hcp3 hb3 T3)
      go_end0
      exact ⟨rfl, FN.out⟩
  | false =>
    have hkq : k = tl := htlk.symm
    clear htlk
    subst hkq
    go_wp2_with fail
    refine wp_region_held_drew (S := fun W => W.cell? ⟨p, 1, none⟩ = some (.slice A fs.length c) ∧ W.cell? ⟨g, 0, none⟩ = some (.string nm) ∧ W.cell? ⟨g, 1, none⟩ = some (.slice Ab nb cb) ∧ W.cell? ⟨g, 2, none⟩ = some (.int .i64 (lo : Int))) (by kernel_rfl) hHeld (fun hHeld => ?_)
    generalize W00.drew = W0 at *
    refine held_take 0 19 (v := ?v200) rfl rfl (by kernel_rfl) (by kernel_rfl) (by kernel_rfl) (fun _ _ _ h => h) hHeld (Or.inl ⟨by rfl, ?y200⟩) ?r200
    case y200 => intro w hSw; (try dsimp only at hSw); go_simp; (try with_reducible rfl)
    simp only [List.setIfInBounds_toArray, List.set_cons_zero, List.set_cons_succ]
    refine held_take 1 20 (v := ?v201) rfl rfl (by kernel_rfl) (by kernel_rfl) (by kernel_rfl) (fun _ _ _ h => h) hHeld (Or.inl ⟨by rfl, ?y201⟩) ?r201
    case y201 => intro w hSw; (try dsimp only at hSw); go_simp; (try with_reducible rfl)
    simp only [List.setIfInBounds_toArray, List.set_cons_zero, List.set_cons_succ]
    refine held_take 2 21 (v := ?v202) rfl rfl (by kernel_rfl) (by kernel_rfl) (by kernel_rfl) (fun _ _ _ h => h) hHeld (Or.inl ⟨by rfl, ?y202⟩) ?r202
    case y202 => intro w hSw; (try dsimp only at hSw); go_simp; (try with_reducible rfl)
    simp only [List.setIfInBounds_toArray, List.set_cons_zero, List.set_cons_succ]
    refine held_take 3 22 (v := ?v203) rfl rfl (by kernel_rfl) (by kernel_rfl) (by kernel_rfl) (fun _ _ _ h => h) hHeld (Or.inl ⟨by rfl, ?y203⟩) ?r203
    case y203 => intro w hSw; (try dsimp only at hSw); go_simp; (try with_reducible rfl)
    simp only [List.setIfInBounds_toArray, List.set_cons_zero, List.set_cons_succ]
    refine held_take 4 23 (v := ?v204) rfl rfl (by kernel_rfl) (by kernel_rfl) (by kernel_rfl) (fun _ _ _ h => h) hHeld (Or.inl ⟨by rfl, ?y204⟩) ?r204
    case y204 => intro w hSw; (try dsimp only at hSw); go_simp; (try with_reducible rfl)
    simp only [List.setIfInBounds_toArray, List.set_cons_zero, List.set_cons_succ]
    refine held_take 5 24 (v := ?v205) rfl rfl (by kernel_rfl) (by kernel_rfl) (by kernel_rfl) (fun _ _ _ h => h) hHeld (Or.inl ⟨by rfl, ?y205⟩) ?r205
    case y205 => intro w hSw; (try dsimp only at hSw); go_simp; (try with_reducible rfl)
    simp only [List.setIfInBounds_toArray, List.set_cons_zero, List.set_cons_succ]
    refine held_take 7 26 (v := ?v206) rfl rfl (by kernel_rfl) (by kernel_rfl) (by kernel_rfl) (fun _ _ _ h => h) hHeld (Or.inl ⟨by rfl, ?y206⟩) ?r206
    case y206 => intro w hSw; (try dsimp only at hSw); go_simp; (try with_reducible rfl)
    simp only [List.setIfInBounds_toArray, List.set_cons_zero, List.set_cons_succ]
    refine wpAnyH_ready (rs := [6, 8]) (by kernel_rfl) (by simp) ?_
    refine AllReadyH.cons (o := ⟨some 25, _, _, _, _, _⟩) rfl (fun K hK => ?_) (AllReadyH.cons (o := ⟨some 27, _, _, _, _, _⟩) rfl (fun K hK => ?_) AllReadyH.nil)
    · rw [if_pos (by rfl)]
      refine wp_files (.const (.slice none 0 0)) (.tmp 24) rfl _ _ rfl rfl (newrow_append (newrow_nil HB0.out) (ys := fs.take k) (c := c) HTK.out (by have := HKL.out; have := HCC.out; omega) (HTL.out _ HB0.out) HST.out (by rw [HTK.out]; have := HLN.out; have := HKL.out; simp; omega) HAN.out) ?_
      rintro v2 W2 ⟨hr2, _⟩
      rw [List.nil_append] at hr2
      refine hK.out _ _ (HH.out _ hr2.2) (fun _ => ?_)
      clear hK K hHeld
      have hHeld := HH.out _ hr2.2
      (try simp only [Act.put, List.setIfInBounds_toArray, List.set_cons_zero, List.set_cons_succ])
      refine wpAnyH_ready (rs := [8]) (by kernel_rfl) (by simp) ?_
      refine AllReadyH.cons rfl (fun K hK => ?_) AllReadyH.nil
      go_simp
      have hone := one_lies W2 x
      obtain ⟨A2, c2, rfl, _⟩ := row_form3 hr2.1
      replace hr2 := hr2.alloc (.cells #[.string x.1.name, x.2, .int .i64 (x.1.loose : Int)] 74)
      rw [HX1.out, HX2.out, HX3.out] at hone hr2
      refine hK.out _ _ (HH.out _ hr2.2) (fun _ => ?_)
      clear hK K hHeld
      have hHeld := HH.out _ hr2.2
      (try simp only [Act.put, List.setIfInBounds_toArray, List.set_cons_zero, List.set_cons_succ])
      refine wpAnyH_ready (rs := [9]) (by kernel_rfl) (by simp) ?_
      refine AllReadyH.cons (o := ⟨some 28, _, _, _, _, _⟩) rfl (fun K hK => ?_) AllReadyH.nil
      rw [if_pos (by rfl)]
      refine wp_files (.tmp 25) (.tmp 27) rfl _ _ rfl rfl (newrow_append hr2 (A := some ⟨W2.heap.size, 0, none⟩) (ys := [x]) (c := 1) rfl (Nat.le_refl _) hone (fun y hy => by rw [List.mem_singleton.1 hy]; exact HSL.out) (by rw [HTK.out]; have := HLN.out; simp; omega) (by simp)) ?_
      rintro v3 W3 ⟨hr3, _⟩
      refine hK.out _ _ (HH.out _ hr3.2) (fun _ => ?_)
      clear hK K
      have hHeld := HH.out _ hr3.2
      (try simp only [Act.put, List.setIfInBounds_toArray, List.set_cons_zero, List.set_cons_succ])
      refine held_take 10 7 (v := ?v220) rfl rfl (by kernel_rfl) (by kernel_rfl) (by kernel_rfl) (fun _ _ _ h => h) hHeld (Or.inl ⟨by rfl, ?y220⟩) ?r220
      case y220 => intro w hSw; (try dsimp only at hSw); go_simp; (try with_reducible rfl)
      simp only [List.setIfInBounds_toArray, List.set_cons_zero, List.set_cons_succ]
      refine wpAnyH_done (by kernel_rfl) ?_ _
      clear hHeld hr2 hone
      obtain ⟨A3, c3, rfl, _⟩ := row_form3 hr3.1
      have hcp3 : W3.cell? ⟨p, 1, none⟩ = some (.slice A fs.length c) := (HH.out _ hr3.2).1
      have T3 := Lib.hid (newrow_append hr3 (ys := fs.drop k) (m := fs.length - k) (c := c - k) List.length_drop (by have := HCC.out; omega) (HDR.out W3 hr3.2) HSS.out (by have := HLN.out; rw [List.length_append, HTK.out, List.length_drop]; simp; omega) HDN.out)
      have hb3 := hr3.2
      clear hr3 hk9 hkc hcc
      go_wp2_with (at_builtin; refine wpList_files rfl (.tmp 30) (.tmp 36) rfl _ _ rfl rfl T3.out ?_; rintro v4 W4 ⟨hr4, _⟩; obtain ⟨A4, c4, h4e, _⟩ := row_form3 hr4.1; rw [HN4.out] at h4e; subst h4e; have hcp4 : W4.cell? ⟨p, 1, none⟩ = some (.slice A fs.length c) := (HH.out _ hr4.2).1; have hpf4 := HPF.out W4 hr4.2; have FN := Lib.hid (HFIN.out W4 _ hr4); clear hr4 hcp3 hb3 T3)
      go_end0
      exact ⟨rfl, FN.out⟩
    · rw [if_pos (by rfl)]
      go_simp
      have hb1 : Below wb.heap.size wb (W0.alloc (.cells #[.string nm, .slice Ab nb cb, .int .i64 (lo : Int)] 74)) := HB0.out.alloc HB0.out.size _
      refine hK.out _ _ (HH.out _ hb1) (fun _ => ?_)
      clear hK K hHeld
      have hHeld := HH.out _ hb1
      (try simp only [Act.put, List.setIfInBounds_toArray, List.set_cons_zero, List.set_cons_succ])
      refine wpAnyH_ready (rs := [6]) (by kernel_rfl) (by simp) ?_
      refine AllReadyH.cons (o := ⟨some 25, _, _, _, _, _⟩) rfl (fun K hK => ?_) AllReadyH.nil
      rw [if_pos (by rfl)]
      refine wp_files (.const (.slice none 0 0)) (.tmp 24) rfl _ _ rfl rfl (newrow_append (newrow_nil hb1) (ys := fs.take k) (c := c) HTK.out (by have := HKL.out; have := HCC.out; omega) (HTL.out _ hb1) HST.out (by rw [HTK.out]; have := HLN.out; have := HKL.out; simp; omega) HAN.out) ?_
      rintro v2 W2 ⟨hr2, hg2⟩
      rw [List.nil_append] at hr2
      have hone := one_lies W0 x
      rw [HX1.out, HX2.out, HX3.out] at hone
      replace hone := hone.below (w' := W2) ⟨hg2.os, hg2.tape, hg2.output, hg2.size, fun i hi => hg2.block i hi (by simp [Value.ownBlock])⟩
      obtain ⟨A2, c2, rfl, _⟩ := row_form3 hr2.1
      refine hK.out _ _ (HH.out _ hr2.2) (fun _ => ?_)
      clear hK K hHeld hg2
      have hHeld := HH.out _ hr2.2
      (try simp only [Act.put, List.setIfInBounds_toArray, List.set_cons_zero, List.set_cons_succ])
      refine wpAnyH_ready (rs := [9]) (by kernel_rfl) (by simp) ?_
      refine AllReadyH.cons (o := ⟨some 28, _, _, _, _, _⟩) rfl (fun K hK => ?_) AllReadyH.nil
      rw [if_pos (by rfl)]
      refine wp_files (.tmp 25) (.tmp 27) rfl _ _ rfl rfl (newrow_append hr2 (A := some ⟨W0.heap.size, 0, none⟩) (ys := [x]) (c := 1) rfl (Nat.le_refl _) hone (fun y hy => by rw [List.mem_singleton.1 hy]; exact HSL.out) (by rw [HTK.out]; have := HLN.out; simp; omega) (by simp)) ?_
      rintro v3 W3 ⟨hr3, _⟩
      refine hK.out _ _ (HH.out _ hr3.2) (fun _ => ?_)
      clear hK K
      have hHeld := HH.out _ hr3.2
      (try simp only [Act.put, List.setIfInBounds_toArray, List.set_cons_zero, List.set_cons_succ])
      refine held_take 10 7 (v := ?v240) rfl rfl (by kernel_rfl) (by kernel_rfl) (by kernel_rfl) (fun _ _ _ h => h) hHeld (Or.inl ⟨by rfl, ?y240⟩) ?r240
      case y240 => intro w hSw; (try dsimp only at hSw); go_simp; (try with_reducible rfl)
      simp only [List.setIfInBounds_toArray, List.set_cons_zero, List.set_cons_succ]
      refine wpAnyH_done (by kernel_rfl) ?_ _
      clear hHeld hr2 hone
      obtain ⟨A3, c3, rfl, _⟩ := row_form3 hr3.1
      have hcp3 : W3.cell? ⟨p, 1, none⟩ = some (.slice A fs.length c) := (HH.out _ hr3.2).1
      have T3 := Lib.hid (newrow_append hr3 (ys := fs.drop k) (m := fs.length - k) (c := c - k) List.length_drop (by have := HCC.out; omega) (HDR.out W3 hr3.2) HSS.out (by have := HLN.out; rw [List.length_append, HTK.out, List.length_drop]; simp; omega) HDN.out)
      have hb3 := hr3.2
      clear hr3 hk9 hkc hcc
      go_wp2_with (at_builtin; refine wpList_files rfl (.tmp 30) (.tmp 36) rfl _ _ rfl rfl T3.out ?_; rintro v4 W4 ⟨hr4, _⟩; obtain ⟨A4, c4, h4e, _⟩ := row_form3 hr4.1; rw [HN4.out] at h4e; subst h4e; have hcp4 : W4.cell? ⟨p, 1, none⟩ = some (.slice A fs.length c) := (HH.out _ hr4.2).1; have hpf4 := HPF.out W4 hr4.2; have FN := Lib.hid (HFIN.out W4 _ hr4); clear hr4 hcp3 hb3 T3)
      go_end0
      exact ⟨rfl, FN.out⟩
end
end Go.Proofs.YtefjbefmmmllbaaDoor
