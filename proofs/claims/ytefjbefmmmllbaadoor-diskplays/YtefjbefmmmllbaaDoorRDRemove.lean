/- Contracts of the document's own Remove. -/
import Derived.Test.YtefjbefmmmllbaaDoorRDSync
namespace Go.Proofs.YtefjbefmmmllbaaDoor
open Go.RowKit

section
variable {base : Nat} {S : Nat → Prop} {w : World} {p : Nat} {room : Int} {fs : List FileV}
theorem getR_some {n : ByteArray} (h : (getM (filesOf fs) n).2 = 0) : hasF (filesOf fs) n = true := by
  unfold getM at h
  split at h
  · cases h
  · split at h
    · assumption
    · cases h
/-- Every block of bytes is as it was. -/
def SameBytes (w w' : World) : Prop := ∀ (b : Nat) (cur : Array Value) (fr : Nat × Nat), w.heap[b]? = some (Obj.cells cur 5 fr) → w'.heap[b]? = some (Obj.cells cur 5 fr)
theorem SameBytes.of_below {w w' : World} (h : Below w.heap.size w w') : SameBytes w w' := fun b cur fr hb => by rw [h.block b (Array.getElem?_eq_some_iff.1 hb).1]; exact hb
theorem row_bytes (hR : RDisk base S w p room fs) {W : World} (v : Value) (hb : Below w.heap.size w W) : SameBytes w (W.setCell ⟨p, 1, none⟩ v) := fun b cur fr hc => by
  obtain ⟨_, _, lv, hp, _⟩ := hR
  have hne : b ≠ p := by
    rintro rfl
    rw [hp] at hc
    injection hc with hc
    injection hc with _ h2 _
    exact absurd h2 (by decide)
  rw [heap_setCell_other _ _ _ _ hne, hb.block b (Array.getElem?_eq_some_iff.1 hc).1]
  exact hc
set_option maxHeartbeats 6400000 in
set_option maxRecDepth 4000 in
theorem rremove_any (hR : RDisk base S w p room fs) (n : ByteArray) (hn : n.size ≤ maxLen) (hlen : fs.length ≤ 1000000000) :
    Calls Tryd.prog 24 #[.pointer (some ⟨p, 0, none⟩), .string n] w fun e w' => RDoes base S p room (removeM (filesOf fs) n) w e w' ∧ SameBytes w w' := by
  have HG := Lib.hid (rget_any base S w p room fs n hR hn)
  have hgs := getR_some (fs := fs) (n := n)
  unfold removeM
  obtain ⟨f, er, hfe⟩ : ∃ f er, getM (filesOf fs) n = (f, er) := ⟨_, _, rfl⟩
  rw [hfe] at HG hgs ⊢
  clear hfe
  dsimp only at hgs ⊢
  have HR := Lib.hid hR
  by_cases he : er = 0
  · subst he
    rw [if_neg (by simp)]
    have hhas := hgs rfl
    clear hgs
    obtain ⟨A, c, c0, c1, hcc, hcm, hAn, hfs⟩ := hR.cells
    have hlie : FilesLie w A fs := by
      obtain ⟨_, _, lv, hp, hr⟩ := hR
      have : w.cell? ⟨p, 1, none⟩ = some lv := by unfold World.cell?; rw [hp]; rfl
      rw [c1] at this
      injection this with this
      subst this
      exact row_lies hr.1
    have hsl : ∀ y ∈ fs, SlIn S w y.2 y.1.b ∧ y.1.wf := fun y hy => by obtain ⟨_, _, _, _, hr⟩ := hR; exact hr.2.2 y hy
    have hshape : ∀ {y : FileV}, SlIn S w y.2 y.1.b → ∃ A n c, y.2 = .slice A n c := fun {y} h => by obtain ⟨A, c, e, _⟩ := h; exact ⟨A, _, c, e⟩
    have hpl : p < w.heap.size := (hR.1.2 p hR.2.1).2
    have hpf : ∀ W, Below w.heap.size w W → W.frozen? ⟨p, 1, none⟩ = false := fun W hb => by
      obtain ⟨_, _, lv, hp, _⟩ := hR
      have : W.heap[p]? = some (.cells #[.int .i64 room, lv] 47 (0, 0)) := by rw [hb.block p hpl]; exact hp
      simp [World.frozen?, this]
    have hfind : ∀ W, Below w.heap.size w W → _ := fun W hb => rfind_any base S W p room fs n (hR.below hb)
    rw [hhas] at hfind
    have hkl := hasF_lt hhas
    rw [filesOf_length] at hkl
    obtain ⟨k, hk⟩ : ∃ k, findK (filesOf fs) n = k := ⟨_, rfl⟩
    rw [hk] at hfind hkl ⊢
    obtain ⟨tl, htl⟩ : ∃ tl, k + 1 = tl := ⟨_, rfl⟩
    rw [htl]
    have htll : tl ≤ fs.length := by omega
    have htk : (fs.take k).length = k := by rw [List.length_take]; omega
    have hdrop : ∀ W, Below w.heap.size w W → FilesLie W (if c = tl then A else A.map (·.add (tl * 3))) (fs.drop tl) := fun W hb => (hlie.below hb).drop htll hcc
    have hdn : (if c = tl then A else A.map (·.add (tl * 3))) = none → c - tl = 0 := fun h => by
      split at h
      · omega
      · rcases A with _ | ad
        · have := hAn rfl; omega
        · simp at h
    have HRES := Lib.hid (show filesOf (fs.take k ++ fs.drop tl) = ((filesOf fs).take k ++ (filesOf fs).drop tl, (0 : Int)).1 by
      unfold filesOf
      rw [List.map_append, List.map_take, List.map_drop])
    have HFIN := Lib.hid (fun (W : World) (v : Value) (h : NewRow w W v (fs.take k ++ fs.drop tl)) => And.intro (row_fin hR h fun y hy => by
      rcases List.mem_append.1 hy with hy | hy
      · exact hsl y (List.mem_of_mem_take hy)
      · exact hsl y (List.mem_of_mem_drop hy)) (row_bytes hR v h.2))
    have HFD := Lib.hid hfind
    have HPF := Lib.hid hpf
    have HTL := Lib.hid (fun (W : World) (hb : Below w.heap.size w W) => (hlie.below hb).take k)
    have HDR := Lib.hid hdrop
    have HDN := Lib.hid hdn
    have HST := Lib.hid (fun (y : FileV) (hy : y ∈ fs.take k) => hshape (hsl y (List.mem_of_mem_take hy)).1)
    have HSS := Lib.hid (fun (y : FileV) (hy : y ∈ fs.drop tl) => hshape (hsl y (List.mem_of_mem_drop hy)).1)
    have HH := Lib.hid (fun (W : World) (hb : Below w.heap.size w W) => (hb.cell hpl).trans c1)
    have HTK := Lib.hid htk
    obtain ⟨N4, hN4⟩ : ∃ n, (fs.take k ++ fs.drop tl).length = n := ⟨_, rfl⟩
    have HN4 := Lib.hid hN4
    clear hN4
    have HLN := Lib.hid hlen
    have HKL := Lib.hid hkl
    have HCC := Lib.hid hcc
    have HAN := Lib.hid hAn
    have hk9 : k ≤ 1000000000 := by omega
    have hkc : k ≤ c := by omega
    have htl9 : tl ≤ 1000000000 := by omega
    have htl0 : (0 : Int) ≤ (tl : Int) := by omega
    have htlI : (tl : Int) ≤ (fs.length : Int) := by omega
    have hkt2 : (k : Int) + 1 = (tl : Int) := by omega
    have hwt : IntKind.i64.wrap (tl : Int) = (tl : Int) := by rw [IntKind.wrap_i64]; omega
    clear hdrop hdn hpf hpl hsl hshape hlie hk htk hlen hfs c0 c1 hR hAn hkl hfind hhas htl HR hcc hcm
    go_enter Tryd.func24, Tryd.ntmps24
    go_wp2_with fail
    refine HG.out.mono ?_
    rintro e w1 ⟨bv, rfl, hsl0, hb1⟩
    obtain ⟨Ab, cb, rfl, _⟩ := id hsl0
    dsimp only
    have HB1 := Lib.hid (hb1.alloc hb1.size (.cells #[.string f.name, .slice Ab f.b.length cb, .int .i64 (f.loose : Int)] 74))
    clear hsl0 hb1 HG
    go_wp2_with fail
    refine (HFD.out _ HB1.out).mono ?_
    rintro e W00 ⟨rfl, m0, rfl⟩
    have HB00 := Lib.hid (below_drewN HB1.out m0)
    clear HFD HB1
    generalize (w1.alloc (.cells #[.string f.name, .slice Ab f.b.length cb, .int .i64 (f.loose : Int)] 74)).drewN m0 = W00 at *
    have HB0 := Lib.hid (show Below w.heap.size w W00.drew from below_drewN HB00.out 1)
    go_wp2_with fail
    refine wp_region_held_drew (S := fun _ => True) (by kernel_rfl) trivial (fun hHeld => ?_)
    generalize W00.drew = W0 at *
    refine held_take 0 24 (v := ?v1) rfl rfl (by kernel_rfl) (by kernel_rfl) (by kernel_rfl) (fun _ _ _ h => h) hHeld (Or.inl ⟨by rfl, ?y1⟩) ?r1
    case y1 => intro w hSw; (try dsimp only at hSw); go_simp; (try with_reducible rfl)
    simp only [List.setIfInBounds_toArray, List.set_cons_zero, List.set_cons_succ]
    refine held_take 1 25 (v := ?v2) rfl rfl (by kernel_rfl) (by kernel_rfl) (by kernel_rfl) (fun _ _ _ h => h) hHeld (Or.inl ⟨by rfl, ?y2⟩) ?r2
    case y2 => intro w hSw; (try dsimp only at hSw); go_simp; (try with_reducible rfl)
    simp only [List.setIfInBounds_toArray, List.set_cons_zero, List.set_cons_succ]
    refine held_take 2 26 (v := ?v3) rfl rfl (by kernel_rfl) (by kernel_rfl) (by kernel_rfl) (fun _ _ _ h => h) hHeld (Or.inl ⟨by rfl, ?y3⟩) ?r3
    case y3 => intro w hSw; (try dsimp only at hSw); go_simp; (try with_reducible rfl)
    simp only [List.setIfInBounds_toArray, List.set_cons_zero, List.set_cons_succ]
    refine held_take 3 27 (v := ?v4) rfl rfl (by kernel_rfl) (by kernel_rfl) (by kernel_rfl) (fun _ _ _ h => h) hHeld (Or.inl ⟨by rfl, ?y4⟩) ?r4
    case y4 => intro w hSw; (try dsimp only at hSw); go_simp; (try with_reducible rfl)
    simp only [List.setIfInBounds_toArray, List.set_cons_zero, List.set_cons_succ]
    refine held_take 5 29 (v := ?v5) rfl rfl (by kernel_rfl) (by kernel_rfl) (by kernel_rfl) (fun _ _ _ h => h) hHeld (Or.inl ⟨by rfl, ?y5⟩) ?r5
    case y5 => intro w hSw; (try dsimp only at hSw); go_simp; (try with_reducible rfl)
    simp only [List.setIfInBounds_toArray, List.set_cons_zero, List.set_cons_succ]
    refine held_take 8 32 (v := ?v6) rfl rfl (by kernel_rfl) (by kernel_rfl) (by kernel_rfl) (fun _ _ _ h => h) hHeld (Or.inl ⟨by rfl, ?y6⟩) ?r6
    case y6 => intro w hSw; (try dsimp only at hSw); go_simp; (try with_reducible rfl)
    simp only [List.setIfInBounds_toArray, List.set_cons_zero, List.set_cons_succ]
    refine held_take 9 33 (v := ?v7) rfl rfl (by kernel_rfl) (by kernel_rfl) (by kernel_rfl) (fun _ _ _ h => h) hHeld (Or.inl ⟨by rfl, ?y7⟩) ?r7
    case y7 => intro w hSw; (try dsimp only at hSw); go_simp; (try with_reducible rfl)
    simp only [List.setIfInBounds_toArray, List.set_cons_zero, List.set_cons_succ]
    refine held_take 10 34 (v := ?v8) rfl rfl (by kernel_rfl) (by kernel_rfl) (by kernel_rfl) (fun _ _ _ h => h) hHeld (Or.inl ⟨by rfl, ?y8⟩) ?r8
    case y8 => intro w hSw; (try dsimp only at hSw); go_simp; (try with_reducible rfl)
    simp only [List.setIfInBounds_toArray, List.set_cons_zero, List.set_cons_succ]
    refine held_take 12 36 (v := ?v9) rfl rfl (by kernel_rfl) (by kernel_rfl) (by kernel_rfl) (fun _ _ _ h => h) hHeld (Or.inl ⟨by rfl, ?y9⟩) ?r9
    case y9 => intro w hSw; (try dsimp only at hSw); go_simp; (try with_reducible rfl)
    simp only [List.setIfInBounds_toArray, List.set_cons_zero, List.set_cons_succ]
    refine held_take 13 37 (v := ?v10) rfl rfl (by kernel_rfl) (by kernel_rfl) (by kernel_rfl) (fun _ _ _ h => h) hHeld (Or.inl ⟨by rfl, ?y10⟩) ?r10
    case y10 => intro w hSw; (try dsimp only at hSw); go_simp; (try with_reducible rfl)
    simp only [List.setIfInBounds_toArray, List.set_cons_zero, List.set_cons_succ]
    refine wpAnyH_ready (rs := [4, 11]) (by kernel_rfl) (by simp) ?_
    refine AllReadyH.cons (o := ⟨some 28, _, _, _, _, _⟩) rfl (fun K hK => ?_) (AllReadyH.cons (o := ⟨some 35, _, _, _, _, _⟩) rfl (fun K hK => ?_) AllReadyH.nil)
    · (try rw [if_pos (by rfl)])
      have hcpx := HH.out _ HB0.out
      go_simp
      refine hK.out _ _ trivial (fun _ => ?_)
      clear hK K hcpx
      (try simp only [Act.put, List.setIfInBounds_toArray, List.set_cons_zero, List.set_cons_succ])
      refine held_take 6 30 (v := ?v100) rfl rfl (by kernel_rfl) (by kernel_rfl) (by kernel_rfl) (fun _ _ _ h => h) hHeld (Or.inl ⟨by rfl, ?y100⟩) ?r100
      case y100 => intro w hSw; (try dsimp only at hSw); go_simp; (try with_reducible rfl)
      simp only [List.setIfInBounds_toArray, List.set_cons_zero, List.set_cons_succ]
      refine wpAnyH_ready (rs := [7, 11]) (by kernel_rfl) (by simp) ?_
      refine AllReadyH.cons (o := ⟨some 31, _, _, _, _, _⟩) rfl (fun K hK => ?_) (AllReadyH.cons (o := ⟨some 35, _, _, _, _, _⟩) rfl (fun K hK => ?_) AllReadyH.nil)
      · rw [if_pos (by rfl)]
        refine wp_files (.const (.slice none 0 0)) (.tmp 30) rfl _ _ rfl rfl (newrow_append (newrow_nil HB0.out) (ys := fs.take k) (c := c) HTK.out (by have := HKL.out; have := HCC.out; omega) (HTL.out _ HB0.out) HST.out (by rw [HTK.out]; have := HLN.out; have := HKL.out; simp; omega) HAN.out) ?_
        rintro v2 W2 ⟨hr2, _⟩
        rw [List.nil_append] at hr2
        obtain ⟨A2, c2, h2e, _⟩ := row_form3 hr2.1
        rw [HTK.out] at h2e
        subst h2e
        refine hK.out _ _ trivial (fun _ => ?_)
        clear hK K
        (try simp only [Act.put, List.setIfInBounds_toArray, List.set_cons_zero, List.set_cons_succ])
        refine wpAnyH_ready (rs := [11]) (by kernel_rfl) (by simp) ?_
        refine AllReadyH.cons rfl (fun K hK => ?_) AllReadyH.nil
        (try rw [if_pos (by rfl)])
        have hcpx := HH.out _ hr2.2
        go_simp
        refine hK.out _ _ trivial (fun _ => ?_)
        clear hK K hcpx
        (try simp only [Act.put, List.setIfInBounds_toArray, List.set_cons_zero, List.set_cons_succ])
        refine held_take 14 38 (v := ?v120) rfl rfl (by kernel_rfl) (by kernel_rfl) (by kernel_rfl) (fun _ _ _ h => h) hHeld (Or.inl ⟨by rfl, ?y120⟩) ?r120
        case y120 => intro w hSw; (try dsimp only at hSw); go_simp; (try with_reducible rfl)
        simp only [List.setIfInBounds_toArray, List.set_cons_zero, List.set_cons_succ]
        refine wpAnyH_ready (rs := [15]) (by kernel_rfl) (by simp) ?_
        refine AllReadyH.cons (o := ⟨some 39, _, _, _, _, _⟩) rfl (fun K hK => ?_) AllReadyH.nil
        rw [if_pos (by rfl)]
        refine wp_files (.tmp 31) (.tmp 38) rfl _ _ rfl rfl (newrow_append hr2 (ys := fs.drop tl) (m := fs.length - tl) (c := c - tl) List.length_drop (by have := HCC.out; omega) (HDR.out W2 hr2.2) HSS.out (by have := HLN.out; rw [HTK.out, List.length_drop]; have := HKL.out; omega) HDN.out) ?_
        rintro v4 W4 ⟨hr4, _⟩
        obtain ⟨A4, c4, h4e, _⟩ := row_form3 hr4.1
        rw [HN4.out] at h4e
        subst h4e
        refine hK.out _ _ trivial (fun _ => ?_)
        clear hK K
        have hcp4 := HH.out _ hr4.2
        have hpf4 := HPF.out W4 hr4.2
        have FN := Lib.hid (HFIN.out W4 _ hr4)
        (try simp only [Act.put, List.setIfInBounds_toArray, List.set_cons_zero, List.set_cons_succ])
        refine held_take 16 40 (v := ?v140) rfl rfl (by kernel_rfl) (by kernel_rfl) (by kernel_rfl) (fun _ _ _ h => h) hHeld (Or.inl ⟨by rfl, ?y140⟩) ?r140
        case y140 => intro w hSw; (try dsimp only at hSw); go_simp; (try with_reducible rfl)
        simp only [List.setIfInBounds_toArray, List.set_cons_zero, List.set_cons_succ]
        refine held_take 17 41 (v := ?v141) rfl rfl (by kernel_rfl) (by kernel_rfl) (by kernel_rfl) (fun _ _ _ h => h) hHeld (Or.inl ⟨by rfl, ?y141⟩) ?r141
        case y141 => intro w hSw; (try dsimp only at hSw); go_simp; (try with_reducible rfl)
        simp only [List.setIfInBounds_toArray, List.set_cons_zero, List.set_cons_succ]
        refine wpAnyH_ready (rs := [18]) (by kernel_rfl) (by simp) ?_
        refine AllReadyH.cons rfl (fun K hK => ?_) AllReadyH.nil
        go_simp
        refine hK.out _ _ trivial (fun _ => ?_)
        clear hK K
        refine wpAnyH_done (by kernel_rfl) ?_ _
        clear hr2 hr4 hcp4 hpf4
        go_wp2
        all_goals (go_ret; exact ⟨⟨rfl, _, HRES.out, FN.out.1⟩, FN.out.2⟩)
      · (try rw [if_pos (by rfl)])
        have hcpx := HH.out _ HB0.out
        go_simp
        refine hK.out _ _ trivial (fun _ => ?_)
        clear hK K hcpx
        (try simp only [Act.put, List.setIfInBounds_toArray, List.set_cons_zero, List.set_cons_succ])
        refine held_take 14 38 (v := ?v160) rfl rfl (by kernel_rfl) (by kernel_rfl) (by kernel_rfl) (fun _ _ _ h => h) hHeld (Or.inl ⟨by rfl, ?y160⟩) ?r160
        case y160 => intro w hSw; (try dsimp only at hSw); go_simp; (try with_reducible rfl)
        simp only [List.setIfInBounds_toArray, List.set_cons_zero, List.set_cons_succ]
        refine wpAnyH_ready (rs := [7]) (by kernel_rfl) (by simp) ?_
        refine AllReadyH.cons (o := ⟨some 31, _, _, _, _, _⟩) rfl (fun K hK => ?_) AllReadyH.nil
        rw [if_pos (by rfl)]
        refine wp_files (.const (.slice none 0 0)) (.tmp 30) rfl _ _ rfl rfl (newrow_append (newrow_nil HB0.out) (ys := fs.take k) (c := c) HTK.out (by have := HKL.out; have := HCC.out; omega) (HTL.out _ HB0.out) HST.out (by rw [HTK.out]; have := HLN.out; have := HKL.out; simp; omega) HAN.out) ?_
        rintro v2 W2 ⟨hr2, _⟩
        rw [List.nil_append] at hr2
        obtain ⟨A2, c2, h2e, _⟩ := row_form3 hr2.1
        rw [HTK.out] at h2e
        subst h2e
        refine hK.out _ _ trivial (fun _ => ?_)
        clear hK K
        (try simp only [Act.put, List.setIfInBounds_toArray, List.set_cons_zero, List.set_cons_succ])
        refine wpAnyH_ready (rs := [15]) (by kernel_rfl) (by simp) ?_
        refine AllReadyH.cons (o := ⟨some 39, _, _, _, _, _⟩) rfl (fun K hK => ?_) AllReadyH.nil
        rw [if_pos (by rfl)]
        refine wp_files (.tmp 31) (.tmp 38) rfl _ _ rfl rfl (newrow_append hr2 (ys := fs.drop tl) (m := fs.length - tl) (c := c - tl) List.length_drop (by have := HCC.out; omega) (HDR.out W2 hr2.2) HSS.out (by have := HLN.out; rw [HTK.out, List.length_drop]; have := HKL.out; omega) HDN.out) ?_
        rintro v4 W4 ⟨hr4, _⟩
        obtain ⟨A4, c4, h4e, _⟩ := row_form3 hr4.1
        rw [HN4.out] at h4e
        subst h4e
        refine hK.out _ _ trivial (fun _ => ?_)
        clear hK K
        have hcp4 := HH.out _ hr4.2
        have hpf4 := HPF.out W4 hr4.2
        have FN := Lib.hid (HFIN.out W4 _ hr4)
        (try simp only [Act.put, List.setIfInBounds_toArray, List.set_cons_zero, List.set_cons_succ])
        refine held_take 16 40 (v := ?v180) rfl rfl (by kernel_rfl) (by kernel_rfl) (by kernel_rfl) (fun _ _ _ h => h) hHeld (Or.inl ⟨by rfl, ?y180⟩) ?r180
        case y180 => intro w hSw; (try dsimp only at hSw); go_simp; (try with_reducible rfl)
        simp only [List.setIfInBounds_toArray, List.set_cons_zero, List.set_cons_succ]
        refine held_take 17 41 (v := ?v181) rfl rfl (by kernel_rfl) (by kernel_rfl) (by kernel_rfl) (fun _ _ _ h => h) hHeld (Or.inl ⟨by rfl, ?y181⟩) ?r181
        case y181 => intro w hSw; (try dsimp only at hSw); go_simp; (try with_reducible rfl)
        simp only [List.setIfInBounds_toArray, List.set_cons_zero, List.set_cons_succ]
        refine wpAnyH_ready (rs := [18]) (by kernel_rfl) (by simp) ?_
        refine AllReadyH.cons rfl (fun K hK => ?_) AllReadyH.nil
        go_simp
        refine hK.out _ _ trivial (fun _ => ?_)
        clear hK K
        refine wpAnyH_done (by kernel_rfl) ?_ _
        clear hr2 hr4 hcp4 hpf4
        go_wp2
        all_goals (go_ret; exact ⟨⟨rfl, _, HRES.out, FN.out.1⟩, FN.out.2⟩)
    · (try rw [if_pos (by rfl)])
      have hcpx := HH.out _ HB0.out
      go_simp
      refine hK.out _ _ trivial (fun _ => ?_)
      clear hK K hcpx
      (try simp only [Act.put, List.setIfInBounds_toArray, List.set_cons_zero, List.set_cons_succ])
      refine held_take 14 38 (v := ?v200) rfl rfl (by kernel_rfl) (by kernel_rfl) (by kernel_rfl) (fun _ _ _ h => h) hHeld (Or.inl ⟨by rfl, ?y200⟩) ?r200
      case y200 => intro w hSw; (try dsimp only at hSw); go_simp; (try with_reducible rfl)
      simp only [List.setIfInBounds_toArray, List.set_cons_zero, List.set_cons_succ]
      refine wpAnyH_ready (rs := [4]) (by kernel_rfl) (by simp) ?_
      refine AllReadyH.cons rfl (fun K hK => ?_) AllReadyH.nil
      (try rw [if_pos (by rfl)])
      have hcpx := HH.out _ HB0.out
      go_simp
      refine hK.out _ _ trivial (fun _ => ?_)
      clear hK K hcpx
      (try simp only [Act.put, List.setIfInBounds_toArray, List.set_cons_zero, List.set_cons_succ])
      refine held_take 6 30 (v := ?v220) rfl rfl (by kernel_rfl) (by kernel_rfl) (by kernel_rfl) (fun _ _ _ h => h) hHeld (Or.inl ⟨by rfl, ?y220⟩) ?r220
      case y220 => intro w hSw; (try dsimp only at hSw); go_simp; (try with_reducible rfl)
      simp only [List.setIfInBounds_toArray, List.set_cons_zero, List.set_cons_succ]
      refine wpAnyH_ready (rs := [7]) (by kernel_rfl) (by simp) ?_
      refine AllReadyH.cons (o := ⟨some 31, _, _, _, _, _⟩) rfl (fun K hK => ?_) AllReadyH.nil
      rw [if_pos (by rfl)]
      refine wp_files (.const (.slice none 0 0)) (.tmp 30) rfl _ _ rfl rfl (newrow_append (newrow_nil HB0.out) (ys := fs.take k) (c := c) HTK.out (by have := HKL.out; have := HCC.out; omega) (HTL.out _ HB0.out) HST.out (by rw [HTK.out]; have := HLN.out; have := HKL.out; simp; omega) HAN.out) ?_
      rintro v2 W2 ⟨hr2, _⟩
      rw [List.nil_append] at hr2
      obtain ⟨A2, c2, h2e, _⟩ := row_form3 hr2.1
      rw [HTK.out] at h2e
      subst h2e
      refine hK.out _ _ trivial (fun _ => ?_)
      clear hK K
      (try simp only [Act.put, List.setIfInBounds_toArray, List.set_cons_zero, List.set_cons_succ])
      refine wpAnyH_ready (rs := [15]) (by kernel_rfl) (by simp) ?_
      refine AllReadyH.cons (o := ⟨some 39, _, _, _, _, _⟩) rfl (fun K hK => ?_) AllReadyH.nil
      rw [if_pos (by rfl)]
      refine wp_files (.tmp 31) (.tmp 38) rfl _ _ rfl rfl (newrow_append hr2 (ys := fs.drop tl) (m := fs.length - tl) (c := c - tl) List.length_drop (by have := HCC.out; omega) (HDR.out W2 hr2.2) HSS.out (by have := HLN.out; rw [HTK.out, List.length_drop]; have := HKL.out; omega) HDN.out) ?_
      rintro v4 W4 ⟨hr4, _⟩
      obtain ⟨A4, c4, h4e, _⟩ := row_form3 hr4.1
      rw [HN4.out] at h4e
      subst h4e
      refine hK.out _ _ trivial (fun _ => ?_)
      clear hK K
      have hcp4 := HH.out _ hr4.2
      have hpf4 := HPF.out W4 hr4.2
      have FN := Lib.hid (HFIN.out W4 _ hr4)
      (try simp only [Act.put, List.setIfInBounds_toArray, List.set_cons_zero, List.set_cons_succ])
      refine held_take 16 40 (v := ?v240) rfl rfl (by kernel_rfl) (by kernel_rfl) (by kernel_rfl) (fun _ _ _ h => h) hHeld (Or.inl ⟨by rfl, ?y240⟩) ?r240
      case y240 => intro w hSw; (try dsimp only at hSw); go_simp; (try with_reducible rfl)
      simp only [List.setIfInBounds_toArray, List.set_cons_zero, List.set_cons_succ]
      refine held_take 17 41 (v := ?v241) rfl rfl (by kernel_rfl) (by kernel_rfl) (by kernel_rfl) (fun _ _ _ h => h) hHeld (Or.inl ⟨by rfl, ?y241⟩) ?r241
      case y241 => intro w hSw; (try dsimp only at hSw); go_simp; (try with_reducible rfl)
      simp only [List.setIfInBounds_toArray, List.set_cons_zero, List.set_cons_succ]
      refine wpAnyH_ready (rs := [18]) (by kernel_rfl) (by simp) ?_
      refine AllReadyH.cons rfl (fun K hK => ?_) AllReadyH.nil
      go_simp
      refine hK.out _ _ trivial (fun _ => ?_)
      clear hK K
      refine wpAnyH_done (by kernel_rfl) ?_ _
      clear hr2 hr4 hcp4 hpf4
      go_wp2
      all_goals (go_ret; exact ⟨⟨rfl, _, HRES.out, FN.out.1⟩, FN.out.2⟩)
  · rw [if_pos he]
    have hne : (er != 0) = true := by simpa using he
    clear hR hgs
    go_enter Tryd.func24, Tryd.ntmps24
    go_wp2_with fail
    refine HG.out.mono ?_
    rintro e w1 ⟨bv, rfl, hsl, hb1⟩
    obtain ⟨A, c, rfl, _⟩ := id hsl
    dsimp only
    clear HG hsl
    go_wp2
    go_ret
    exact ⟨⟨rfl, fs, rfl, RLeft.of_below HR.out (hb1.alloc hb1.size _)⟩, SameBytes.of_below (hb1.alloc hb1.size _)⟩
end
end Go.Proofs.YtefjbefmmmllbaaDoor
