/- A contract of the document's own Delete, of a store. -/
import Derived.Test.YtfbdmagonjjjoaaDoorRSGet
import Derived.Test.YtfbdmagonjjjoaaDoorRSRow
namespace Go.Proofs.YtfbdmagonjjjoaaDoor
open Go.RowKit

section
variable {base : Nat} {S : Nat → Prop} {w : World} {p : Nat} {room : Int} {fs : List FileV} {bad : List Int}
/-- What a call answers that changes the objects. -/
def ODoes (base : Nat) (S : Nat → Prop) (p : Nat) (room : Int) (bad : List Int) (r : List FileM × Int) (w : World) (e : Ending) (w' : World) : Prop :=
  e = .returned (.int .i64 r.2) ∧ ∃ fs', filesOf fs' = r.1 ∧ OLeft base S w w' p room fs' bad
theorem goneM_bad {l : List FileM} {n : ByteArray} (h : validS n = false) : removeM l n = (l, 6) := by unfold removeM; rw [getM_bad h]; rfl
theorem goneM_none {l : List FileM} {n : ByteArray} (h : validS n = true) (hh : hasF l n = false) : removeM l n = (l, 8) := by unfold removeM; rw [getM_none h hh]; rfl
theorem goneM_some {l : List FileM} {n : ByteArray} (h : validS n = true) (hh : hasF l n = true) : removeM l n = (l.take (findK l n) ++ l.drop (findK l n + 1), 0) := by
  unfold removeM
  rw [gotM_some h hh]
  simp
/-- What Delete wants of the row: the objects ahead and those behind, and what is left. -/
theorem osdel_row {w1 : World} {bt : List Int} (hR : RStore base S w1 p room fs bt) (hlen : fs.length ≤ 1000000000) (k tl : Nat) (hk : k < fs.length) (htl : k + 1 = tl) :
    ∃ A c, (∀ W, Below w1.heap.size w1 W → W.cell? ⟨p, 1, none⟩ = some (.slice A fs.length c)) ∧ fs.length ≤ c ∧ c ≤ maxLen ∧
      (∀ W, Below w1.heap.size w1 W → ∀ ty, ∃ v' w', (Builtin.append_ #[49, 49] ty #[.slice none 0 0, .slice A k c]).run Tryd.prog W = .ok v' w' ∧ NewObjs w1 w' v' (fs.take k) ∧ W.grownBy w' (Value.slice none 0 0).ownBlock) ∧
      (∀ W v, NewObjs w1 W v (fs.take k) → ∀ ty, ∃ v' w', (Builtin.append_ #[49, 49] ty #[v, .slice (if c = tl then A else A.map (·.add (tl * 2))) (fs.length - tl) (c - tl)]).run Tryd.prog W = .ok v' w' ∧ NewObjs w1 w' v' (fs.take k ++ fs.drop tl) ∧ W.grownBy w' v.ownBlock) ∧
      (∀ W, Below w1.heap.size w1 W → W.frozen? ⟨p, 1, none⟩ = false) ∧
      (∀ W v, NewObjs w1 W v (fs.take k ++ fs.drop tl) → OLeft base S w1 (W.setCell ⟨p, 1, none⟩ v) p room (fs.take k ++ fs.drop tl) bt) := by
  obtain ⟨A, c, Ab, cb, c0, c1, _, hcc, hcm, hAn, hfs, _⟩ := hR.cells
  have hlie : ObjsLie w1 A fs := by
    obtain ⟨_, _, lv, bv, hp, hr, _⟩ := hR
    have : w1.cell? ⟨p, 1, none⟩ = some lv := by unfold World.cell?; rw [hp]; rfl
    rw [c1] at this
    injection this with this
    subst this
    exact objs_lie hr.1
  have hsl : ∀ y ∈ fs, SlIn S w1 y.2 y.1.b ∧ y.1.wf := fun y hy => by obtain ⟨_, _, _, _, _, hr, _⟩ := hR; exact hr.2.2 y hy
  have hshape : ∀ {y : FileV}, SlIn S w1 y.2 y.1.b → ∃ A n c, y.2 = .slice A n c := fun {y} h => by obtain ⟨A, c, e, _⟩ := h; exact ⟨A, _, c, e⟩
  have htk : (fs.take k).length = k := by rw [List.length_take]; omega
  refine ⟨A, c, fun W hb => (hb.cell (p := ⟨p, 1, none⟩) hR.lt).trans c1, hcc, hcm, fun W hb ty => ?_, fun W v h ty => ?_, fun W hb => (hR.below hb).thaw 1, fun W v h => ?_⟩
  · have := newobj_append (newobj_nil hb) (ys := fs.take k) (c := c) htk (by omega) ((hlie.below hb).take k) (fun y hy => hshape (hsl y (List.mem_of_mem_take hy)).1) (by rw [htk]; simp; omega) hAn ty
    rw [List.nil_append] at this
    exact this
  · refine newobj_append h (ys := fs.drop tl) (c := c - tl) List.length_drop (by omega) ((hlie.below h.2).drop (by omega) hcc) (fun y hy => hshape (hsl y (List.mem_of_mem_drop hy)).1) (by rw [htk, List.length_drop]; omega) (fun h => ?_) ty
    split at h
    · omega
    · rcases A with _ | ad
      · have := hAn rfl; omega
      · simp at h
  · refine obj_fin hR h.2 h.1 fun y hy => ?_
    have h2 : y ∈ fs := by
      rcases List.mem_append.1 hy with hy | hy
      · exact List.mem_of_mem_take hy
      · exact List.mem_of_mem_drop hy
    exact ⟨((hsl y h2).1.below h.2).mono fun _ => .inl, (hsl y h2).2⟩
theorem told_0 (n : Int) : (if n = 2 ∧ (0 : Int) = 0 then (9 : Int) else 0) = if n = 2 then 9 else 0 := by simp
set_option maxHeartbeats 6400000 in
set_option maxRecDepth 4000 in
/-- Delete of an object that is there, where it is done. -/
theorem osdel_some (hR : RStore base S w p room fs bad) (n : ByteArray) (hn : n.size ≤ maxLen) (hbl : bad.length ≤ 1000000) (hlen : fs.length ≤ 1000000000) (hv : validS n = true) (hh : hasF (filesOf fs) n = true) (k0 : Int) (hk0 : bad.headD 0 = k0) (hk02 : k0 = 0 ∨ k0 = 2) :
    Calls Tryd.prog 21 #[.pointer (some ⟨p, 0, none⟩), .string n] w (ODoes base S p room bad.tail ((filesOf fs).take (findK (filesOf fs) n) ++ (filesOf fs).drop (findK (filesOf fs) n + 1), if k0 = 2 then 9 else 0) w) := by
  have HT := Lib.hid (osfault_any hR hbl)
  have HV := Lib.hid (fun W => refvalid_any n W hn)
  have HFD := Lib.hid (fun (w1 : World) (hL : OLeft base S w w1 p room fs bad.tail) => osfind_any base _ w1 p room fs bad.tail n hL.store)
  have HTD := Lib.hid (fun W => told_any k0 0 W)
  rw [told_0] at HTD
  rw [hk0] at HT
  rw [hv] at HV
  rw [hh] at HFD
  have hkl := hasF_lt hh
  rw [filesOf_length] at hkl
  obtain ⟨k, hk⟩ : ∃ k, findK (filesOf fs) n = k := ⟨_, rfl⟩
  rw [hk] at HFD hkl ⊢
  obtain ⟨tl, htl⟩ : ∃ tl, k + 1 = tl := ⟨_, rfl⟩
  rw [htl]
  obtain ⟨gs, hgs⟩ : ∃ gs, fs.take k ++ fs.drop tl = gs := ⟨_, rfl⟩
  have hres : filesOf gs = (filesOf fs).take k ++ (filesOf fs).drop tl := by
    rw [← hgs]
    unfold filesOf
    rw [List.map_append, List.map_take, List.map_drop]
  obtain ⟨N4, hN4⟩ : ∃ n, gs.length = n := ⟨_, rfl⟩
  have HN4 := Lib.hid hN4
  obtain ⟨err, herr⟩ : ∃ e : Int, (if k0 = 2 then (9 : Int) else 0) = e := ⟨_, rfl⟩
  rw [herr] at HTD ⊢
  have HRW := Lib.hid (fun (w1 : World) (hL : OLeft base S w w1 p room fs bad.tail) => osdel_row hL.store hlen k tl hkl htl)
  rw [hgs] at HRW
  have HTK := Lib.hid (show (fs.take k).length = k by rw [List.length_take]; omega)
  have HW := Lib.hid hR.1
  have HLN := Lib.hid hlen
  have HKL := Lib.hid hkl
  have hwt : IntKind.i64.wrap (tl : Int) = (tl : Int) := by rw [IntKind.wrap_i64]; omega
  have hkt2 : (k : Int) + 1 = (tl : Int) := by omega
  have HFF : Hid (∀ w', OLeft base S w w' p room gs bad.tail → ODoes base S p room bad.tail ((filesOf fs).take k ++ (filesOf fs).drop tl, err) w (.returned (.int .i64 err)) w') := Lib.hid fun w' h => ⟨rfl, gs, hres, h⟩
  have b0 : (k0 != 0 && k0 != 2) = false := by rcases hk02 with rfl | rfl <;> rfl
  generalize ((filesOf fs).take k ++ (filesOf fs).drop tl, err) = r at *
  generalize bad.tail = bt at *
  generalize filesOf fs = lo at *
  clear hR hn hbl hk0 hv hh hk hgs hres hN4 herr b0
  rcases hk02 with rfl | rfl
  · go_enter Tryd.func21, Tryd.ntmps21
    go_wp2_with fail
    refine HT.out.mono ?_
    rintro e w1 ⟨rfl, hL⟩
    go_wp2_with fail
    refine (HV.out _).mono ?_
    rintro e w2 ⟨rfl, rfl⟩
    have HFN := Lib.hid (HFD.out w1 hL)
    go_wp2_with fail
    refine HFN.out.mono ?_
    rintro e w2 ⟨rfl, m, rfl⟩
    obtain ⟨A, c, hh1, hcc, hcm, hap1, hap2, hpf, hfin⟩ := HRW.out w1 hL
    have HH := Lib.hid hh1
    have HAP1 := Lib.hid hap1
    have HAP2 := Lib.hid hap2
    have HPF := Lib.hid hpf
    have HFIN := Lib.hid hfin
    unfold maxLen at hcm
    have hk9 : k ≤ 1000000000 := by have := HLN.out; have := HKL.out; omega
    have hkc : k ≤ c := by have := HKL.out; omega
    have htl9 : tl ≤ 1000000000 := by have := HLN.out; have := HKL.out; omega
    have htl0 : (0 : Int) ≤ (tl : Int) := by omega
    have htlI : (tl : Int) ≤ (fs.length : Int) := by have := HKL.out; omega
    clear hh1 hap1 hap2 hpf hfin HRW HT HV HFD HFN hcc hcm htl
    have HB00 := Lib.hid (below_drewN (Below.refl w1.heap.size w1) m)
    generalize w1.drewN m = W00 at *
    have HB0 := Lib.hid (show Below w1.heap.size w1 W00.drew from below_drewN HB00.out 1)
    go_wp2_with fail
    refine wp_region_held_drew (S := fun _ => True) (by kernel_rfl) trivial (fun hHeld => ?_)
    generalize W00.drew = W0 at *
    refine held_take 0 27 (v := ?v1) rfl rfl (by kernel_rfl) (by kernel_rfl) (by kernel_rfl) (fun _ _ _ h => h) hHeld (Or.inl ⟨by rfl, ?y1⟩) ?r1
    case y1 => intro w hSw; (try dsimp only at hSw); go_simp; (try with_reducible rfl)
    simp only [List.setIfInBounds_toArray, List.set_cons_zero, List.set_cons_succ]
    refine held_take 1 28 (v := ?v2) rfl rfl (by kernel_rfl) (by kernel_rfl) (by kernel_rfl) (fun _ _ _ h => h) hHeld (Or.inl ⟨by rfl, ?y2⟩) ?r2
    case y2 => intro w hSw; (try dsimp only at hSw); go_simp; (try with_reducible rfl)
    simp only [List.setIfInBounds_toArray, List.set_cons_zero, List.set_cons_succ]
    refine held_take 2 29 (v := ?v3) rfl rfl (by kernel_rfl) (by kernel_rfl) (by kernel_rfl) (fun _ _ _ h => h) hHeld (Or.inl ⟨by rfl, ?y3⟩) ?r3
    case y3 => intro w hSw; (try dsimp only at hSw); go_simp; (try with_reducible rfl)
    simp only [List.setIfInBounds_toArray, List.set_cons_zero, List.set_cons_succ]
    refine held_take 3 30 (v := ?v4) rfl rfl (by kernel_rfl) (by kernel_rfl) (by kernel_rfl) (fun _ _ _ h => h) hHeld (Or.inl ⟨by rfl, ?y4⟩) ?r4
    case y4 => intro w hSw; (try dsimp only at hSw); go_simp; (try with_reducible rfl)
    simp only [List.setIfInBounds_toArray, List.set_cons_zero, List.set_cons_succ]
    refine held_take 5 32 (v := ?v5) rfl rfl (by kernel_rfl) (by kernel_rfl) (by kernel_rfl) (fun _ _ _ h => h) hHeld (Or.inl ⟨by rfl, ?y5⟩) ?r5
    case y5 => intro w hSw; (try dsimp only at hSw); go_simp; (try with_reducible rfl)
    simp only [List.setIfInBounds_toArray, List.set_cons_zero, List.set_cons_succ]
    refine held_take 8 35 (v := ?v6) rfl rfl (by kernel_rfl) (by kernel_rfl) (by kernel_rfl) (fun _ _ _ h => h) hHeld (Or.inl ⟨by rfl, ?y6⟩) ?r6
    case y6 => intro w hSw; (try dsimp only at hSw); go_simp; (try with_reducible rfl)
    simp only [List.setIfInBounds_toArray, List.set_cons_zero, List.set_cons_succ]
    refine held_take 9 36 (v := ?v7) rfl rfl (by kernel_rfl) (by kernel_rfl) (by kernel_rfl) (fun _ _ _ h => h) hHeld (Or.inl ⟨by rfl, ?y7⟩) ?r7
    case y7 => intro w hSw; (try dsimp only at hSw); go_simp; (try with_reducible rfl)
    simp only [List.setIfInBounds_toArray, List.set_cons_zero, List.set_cons_succ]
    refine held_take 10 37 (v := ?v8) rfl rfl (by kernel_rfl) (by kernel_rfl) (by kernel_rfl) (fun _ _ _ h => h) hHeld (Or.inl ⟨by rfl, ?y8⟩) ?r8
    case y8 => intro w hSw; (try dsimp only at hSw); go_simp; (try with_reducible rfl)
    simp only [List.setIfInBounds_toArray, List.set_cons_zero, List.set_cons_succ]
    refine held_take 12 39 (v := ?v9) rfl rfl (by kernel_rfl) (by kernel_rfl) (by kernel_rfl) (fun _ _ _ h => h) hHeld (Or.inl ⟨by rfl, ?y9⟩) ?r9
    case y9 => intro w hSw; (try dsimp only at hSw); go_simp; (try with_reducible rfl)
    simp only [List.setIfInBounds_toArray, List.set_cons_zero, List.set_cons_succ]
    refine held_take 13 40 (v := ?v10) rfl rfl (by kernel_rfl) (by kernel_rfl) (by kernel_rfl) (fun _ _ _ h => h) hHeld (Or.inl ⟨by rfl, ?y10⟩) ?r10
    case y10 => intro w hSw; (try dsimp only at hSw); go_simp; (try with_reducible rfl)
    simp only [List.setIfInBounds_toArray, List.set_cons_zero, List.set_cons_succ]
    refine wpAnyH_ready (rs := [4, 11]) (by kernel_rfl) (by simp) ?_
    refine AllReadyH.cons (o := ⟨some 31, _, _, _, _, _⟩) rfl (fun K hK => ?_) (AllReadyH.cons (o := ⟨some 38, _, _, _, _, _⟩) rfl (fun K hK => ?_) AllReadyH.nil)
    · (try rw [if_pos (by rfl)])
      have hcpx := HH.out _ HB0.out
      go_simp
      refine hK.out _ _ trivial (fun _ => ?_)
      clear hK K hcpx
      (try simp only [Act.put, List.setIfInBounds_toArray, List.set_cons_zero, List.set_cons_succ])
      refine held_take 6 33 (v := ?v100) rfl rfl (by kernel_rfl) (by kernel_rfl) (by kernel_rfl) (fun _ _ _ h => h) hHeld (Or.inl ⟨by rfl, ?y100⟩) ?r100
      case y100 => intro w hSw; (try dsimp only at hSw); go_simp; (try with_reducible rfl)
      simp only [List.setIfInBounds_toArray, List.set_cons_zero, List.set_cons_succ]
      refine wpAnyH_ready (rs := [7, 11]) (by kernel_rfl) (by simp) ?_
      refine AllReadyH.cons (o := ⟨some 34, _, _, _, _, _⟩) rfl (fun K hK => ?_) (AllReadyH.cons (o := ⟨some 38, _, _, _, _, _⟩) rfl (fun K hK => ?_) AllReadyH.nil)
      · rw [if_pos (by rfl)]
        refine wp_objs (.const (.slice none 0 0)) (.tmp 33) rfl _ _ rfl rfl (HAP1.out _ HB0.out) ?_
        rintro v2 W2 ⟨hr2, _⟩
        obtain ⟨A2, c2, h2e, _⟩ := row_form3 hr2.1
        rw [HTK.out] at h2e
        subst h2e
        refine hK.out _ _ trivial (fun _ => ?_)
        clear hK K
        (try simp only [Act.put, List.setIfInBounds_toArray, List.set_cons_zero, List.set_cons_succ])
        refine wpAnyH_ready (rs := [11]) (by kernel_rfl) (by simp) ?_
        refine AllReadyH.cons rfl (fun K hK => ?_) AllReadyH.nil
        (try rw [if_pos (by rfl)])
        have hcpx := HH.out _ hr2.2
        go_simp
        refine hK.out _ _ trivial (fun _ => ?_)
        clear hK K hcpx
        (try simp only [Act.put, List.setIfInBounds_toArray, List.set_cons_zero, List.set_cons_succ])
        refine held_take 14 41 (v := ?v120) rfl rfl (by kernel_rfl) (by kernel_rfl) (by kernel_rfl) (fun _ _ _ h => h) hHeld (Or.inl ⟨by rfl, ?y120⟩) ?r120
        case y120 => intro w hSw; (try dsimp only at hSw); go_simp; (try with_reducible rfl)
        simp only [List.setIfInBounds_toArray, List.set_cons_zero, List.set_cons_succ]
        refine wpAnyH_ready (rs := [15]) (by kernel_rfl) (by simp) ?_
        refine AllReadyH.cons (o := ⟨some 42, _, _, _, _, _⟩) rfl (fun K hK => ?_) AllReadyH.nil
        rw [if_pos (by rfl)]
        refine wp_objs (.tmp 34) (.tmp 41) rfl _ _ rfl rfl (HAP2.out _ _ hr2) ?_
        rintro v4 W4 ⟨hr4, _⟩
        obtain ⟨A4, c4, h4e, _⟩ := row_form3 hr4.1
        rw [HN4.out] at h4e
        subst h4e
        refine hK.out _ _ trivial (fun _ => ?_)
        clear hK K
        have hcp4 := HH.out _ hr4.2
        have hpf4 := HPF.out W4 hr4.2
        have FN := Lib.hid (HFIN.out W4 _ hr4)
        (try simp only [Act.put, List.setIfInBounds_toArray, List.set_cons_zero, List.set_cons_succ])
        refine held_take 16 43 (v := ?v140) rfl rfl (by kernel_rfl) (by kernel_rfl) (by kernel_rfl) (fun _ _ _ h => h) hHeld (Or.inl ⟨by rfl, ?y140⟩) ?r140
        case y140 => intro w hSw; (try dsimp only at hSw); go_simp; (try with_reducible rfl)
        simp only [List.setIfInBounds_toArray, List.set_cons_zero, List.set_cons_succ]
        refine held_take 17 44 (v := ?v141) rfl rfl (by kernel_rfl) (by kernel_rfl) (by kernel_rfl) (fun _ _ _ h => h) hHeld (Or.inl ⟨by rfl, ?y141⟩) ?r141
        case y141 => intro w hSw; (try dsimp only at hSw); go_simp; (try with_reducible rfl)
        simp only [List.setIfInBounds_toArray, List.set_cons_zero, List.set_cons_succ]
        refine wpAnyH_ready (rs := [18]) (by kernel_rfl) (by simp) ?_
        refine AllReadyH.cons rfl (fun K hK => ?_) AllReadyH.nil
        go_simp
        refine hK.out _ _ trivial (fun _ => ?_)
        clear hK K
        refine wpAnyH_done (by kernel_rfl) ?_ _
        clear hr2 hr4 hcp4 hpf4
        go_wp2_with fail
        all_goals (refine (HTD.out _).mono ?_; rintro e w9 ⟨rfl, rfl⟩; go_wp2; go_ret; exact HFF.out _ (OLeft.trans HW.out hL.keep FN.out))
      · (try rw [if_pos (by rfl)])
        have hcpx := HH.out _ HB0.out
        go_simp
        refine hK.out _ _ trivial (fun _ => ?_)
        clear hK K hcpx
        (try simp only [Act.put, List.setIfInBounds_toArray, List.set_cons_zero, List.set_cons_succ])
        refine held_take 14 41 (v := ?v160) rfl rfl (by kernel_rfl) (by kernel_rfl) (by kernel_rfl) (fun _ _ _ h => h) hHeld (Or.inl ⟨by rfl, ?y160⟩) ?r160
        case y160 => intro w hSw; (try dsimp only at hSw); go_simp; (try with_reducible rfl)
        simp only [List.setIfInBounds_toArray, List.set_cons_zero, List.set_cons_succ]
        refine wpAnyH_ready (rs := [7]) (by kernel_rfl) (by simp) ?_
        refine AllReadyH.cons (o := ⟨some 34, _, _, _, _, _⟩) rfl (fun K hK => ?_) AllReadyH.nil
        rw [if_pos (by rfl)]
        refine wp_objs (.const (.slice none 0 0)) (.tmp 33) rfl _ _ rfl rfl (HAP1.out _ HB0.out) ?_
        rintro v2 W2 ⟨hr2, _⟩
        obtain ⟨A2, c2, h2e, _⟩ := row_form3 hr2.1
        rw [HTK.out] at h2e
        subst h2e
        refine hK.out _ _ trivial (fun _ => ?_)
        clear hK K
        (try simp only [Act.put, List.setIfInBounds_toArray, List.set_cons_zero, List.set_cons_succ])
        refine wpAnyH_ready (rs := [15]) (by kernel_rfl) (by simp) ?_
        refine AllReadyH.cons (o := ⟨some 42, _, _, _, _, _⟩) rfl (fun K hK => ?_) AllReadyH.nil
        rw [if_pos (by rfl)]
        refine wp_objs (.tmp 34) (.tmp 41) rfl _ _ rfl rfl (HAP2.out _ _ hr2) ?_
        rintro v4 W4 ⟨hr4, _⟩
        obtain ⟨A4, c4, h4e, _⟩ := row_form3 hr4.1
        rw [HN4.out] at h4e
        subst h4e
        refine hK.out _ _ trivial (fun _ => ?_)
        clear hK K
        have hcp4 := HH.out _ hr4.2
        have hpf4 := HPF.out W4 hr4.2
        have FN := Lib.hid (HFIN.out W4 _ hr4)
        (try simp only [Act.put, List.setIfInBounds_toArray, List.set_cons_zero, List.set_cons_succ])
        refine held_take 16 43 (v := ?v180) rfl rfl (by kernel_rfl) (by kernel_rfl) (by kernel_rfl) (fun _ _ _ h => h) hHeld (Or.inl ⟨by rfl, ?y180⟩) ?r180
        case y180 => intro w hSw; (try dsimp only at hSw); go_simp; (try with_reducible rfl)
        simp only [List.setIfInBounds_toArray, List.set_cons_zero, List.set_cons_succ]
        refine held_take 17 44 (v := ?v181) rfl rfl (by kernel_rfl) (by kernel_rfl) (by kernel_rfl) (fun _ _ _ h => h) hHeld (Or.inl ⟨by rfl, ?y181⟩) ?r181
        case y181 => intro w hSw; (try dsimp only at hSw); go_simp; (try with_reducible rfl)
        simp only [List.setIfInBounds_toArray, List.set_cons_zero, List.set_cons_succ]
        refine wpAnyH_ready (rs := [18]) (by kernel_rfl) (by simp) ?_
        refine AllReadyH.cons rfl (fun K hK => ?_) AllReadyH.nil
        go_simp
        refine hK.out _ _ trivial (fun _ => ?_)
        clear hK K
        refine wpAnyH_done (by kernel_rfl) ?_ _
        clear hr2 hr4 hcp4 hpf4
        go_wp2_with fail
        all_goals (refine (HTD.out _).mono ?_; rintro e w9 ⟨rfl, rfl⟩; go_wp2; go_ret; exact HFF.out _ (OLeft.trans HW.out hL.keep FN.out))
    · (try rw [if_pos (by rfl)])
      have hcpx := HH.out _ HB0.out
      go_simp
      refine hK.out _ _ trivial (fun _ => ?_)
      clear hK K hcpx
      (try simp only [Act.put, List.setIfInBounds_toArray, List.set_cons_zero, List.set_cons_succ])
      refine held_take 14 41 (v := ?v200) rfl rfl (by kernel_rfl) (by kernel_rfl) (by kernel_rfl) (fun _ _ _ h => h) hHeld (Or.inl ⟨by rfl, ?y200⟩) ?r200
      case y200 => intro w hSw; (try dsimp only at hSw); go_simp; (try with_reducible rfl)
      simp only [List.setIfInBounds_toArray, List.set_cons_zero, List.set_cons_succ]
      refine wpAnyH_ready (rs := [4]) (by kernel_rfl) (by simp) ?_
      refine AllReadyH.cons rfl (fun K hK => ?_) AllReadyH.nil
      (try rw [if_pos (by rfl)])
      have hcpx := HH.out _ HB0.out
      go_simp
      refine hK.out _ _ trivial (fun _ => ?_)
      clear hK K hcpx
      (try simp only [Act.put, List.setIfInBounds_toArray, List.set_cons_zero, List.set_cons_succ])
      refine held_take 6 33 (v := ?v220) rfl rfl (by kernel_rfl) (by kernel_rfl) (by kernel_rfl) (fun _ _ _ h => h) hHeld (Or.inl ⟨by rfl, ?y220⟩) ?r220
      case y220 => intro w hSw; (try dsimp only at hSw); go_simp; (try with_reducible rfl)
      simp only [List.setIfInBounds_toArray, List.set_cons_zero, List.set_cons_succ]
      refine wpAnyH_ready (rs := [7]) (by kernel_rfl) (by simp) ?_
      refine AllReadyH.cons (o := ⟨some 34, _, _, _, _, _⟩) rfl (fun K hK => ?_) AllReadyH.nil
      rw [if_pos (by rfl)]
      refine wp_objs (.const (.slice none 0 0)) (.tmp 33) rfl _ _ rfl rfl (HAP1.out _ HB0.out) ?_
      rintro v2 W2 ⟨hr2, _⟩
      obtain ⟨A2, c2, h2e, _⟩ := row_form3 hr2.1
      rw [HTK.out] at h2e
      subst h2e
      refine hK.out _ _ trivial (fun _ => ?_)
      clear hK K
      (try simp only [Act.put, List.setIfInBounds_toArray, List.set_cons_zero, List.set_cons_succ])
      refine wpAnyH_ready (rs := [15]) (by kernel_rfl) (by simp) ?_
      refine AllReadyH.cons (o := ⟨some 42, _, _, _, _, _⟩) rfl (fun K hK => ?_) AllReadyH.nil
      rw [if_pos (by rfl)]
      refine wp_objs (.tmp 34) (.tmp 41) rfl _ _ rfl rfl (HAP2.out _ _ hr2) ?_
      rintro v4 W4 ⟨hr4, _⟩
      obtain ⟨A4, c4, h4e, _⟩ := row_form3 hr4.1
      rw [HN4.out] at h4e
      subst h4e
      refine hK.out _ _ trivial (fun _ => ?_)
      clear hK K
      have hcp4 := HH.out _ hr4.2
      have hpf4 := HPF.out W4 hr4.2
      have FN := Lib.hid (HFIN.out W4 _ hr4)
      (try simp only [Act.put, List.setIfInBounds_toArray, List.set_cons_zero, List.set_cons_succ])
      refine held_take 16 43 (v := ?v240) rfl rfl (by kernel_rfl) (by kernel_rfl) (by kernel_rfl) (fun _ _ _ h => h) hHeld (Or.inl ⟨by rfl, ?y240⟩) ?r240
      case y240 => intro w hSw; (try dsimp only at hSw); go_simp; (try with_reducible rfl)
      simp only [List.setIfInBounds_toArray, List.set_cons_zero, List.set_cons_succ]
      refine held_take 17 44 (v := ?v241) rfl rfl (by kernel_rfl) (by kernel_rfl) (by kernel_rfl) (fun _ _ _ h => h) hHeld (Or.inl ⟨by rfl, ?y241⟩) ?r241
      case y241 => intro w hSw; (try dsimp only at hSw); go_simp; (try with_reducible rfl)
      simp only [List.setIfInBounds_toArray, List.set_cons_zero, List.set_cons_succ]
      refine wpAnyH_ready (rs := [18]) (by kernel_rfl) (by simp) ?_
      refine AllReadyH.cons rfl (fun K hK => ?_) AllReadyH.nil
      go_simp
      refine hK.out _ _ trivial (fun _ => ?_)
      clear hK K
      refine wpAnyH_done (by kernel_rfl) ?_ _
      clear hr2 hr4 hcp4 hpf4
      go_wp2_with fail
      all_goals (refine (HTD.out _).mono ?_; rintro e w9 ⟨rfl, rfl⟩; go_wp2; go_ret; exact HFF.out _ (OLeft.trans HW.out hL.keep FN.out))
  · go_enter Tryd.func21, Tryd.ntmps21
    go_wp2_with fail
    refine HT.out.mono ?_
    rintro e w1 ⟨rfl, hL⟩
    go_wp2_with fail
    refine (HV.out _).mono ?_
    rintro e w2 ⟨rfl, rfl⟩
    have HFN := Lib.hid (HFD.out w1 hL)
    go_wp2_with fail
    refine HFN.out.mono ?_
    rintro e w2 ⟨rfl, m, rfl⟩
    obtain ⟨A, c, hh1, hcc, hcm, hap1, hap2, hpf, hfin⟩ := HRW.out w1 hL
    have HH := Lib.hid hh1
    have HAP1 := Lib.hid hap1
    have HAP2 := Lib.hid hap2
    have HPF := Lib.hid hpf
    have HFIN := Lib.hid hfin
    unfold maxLen at hcm
    have hk9 : k ≤ 1000000000 := by have := HLN.out; have := HKL.out; omega
    have hkc : k ≤ c := by have := HKL.out; omega
    have htl9 : tl ≤ 1000000000 := by have := HLN.out; have := HKL.out; omega
    have htl0 : (0 : Int) ≤ (tl : Int) := by omega
    have htlI : (tl : Int) ≤ (fs.length : Int) := by have := HKL.out; omega
    clear hh1 hap1 hap2 hpf hfin HRW HT HV HFD HFN hcc hcm htl
    have HB00 := Lib.hid (below_drewN (Below.refl w1.heap.size w1) m)
    generalize w1.drewN m = W00 at *
    have HB0 := Lib.hid (show Below w1.heap.size w1 W00.drew from below_drewN HB00.out 1)
    go_wp2_with fail
    refine wp_region_held_drew (S := fun _ => True) (by kernel_rfl) trivial (fun hHeld => ?_)
    generalize W00.drew = W0 at *
    refine held_take 0 27 (v := ?v301) rfl rfl (by kernel_rfl) (by kernel_rfl) (by kernel_rfl) (fun _ _ _ h => h) hHeld (Or.inl ⟨by rfl, ?y301⟩) ?r301
    case y301 => intro w hSw; (try dsimp only at hSw); go_simp; (try with_reducible rfl)
    simp only [List.setIfInBounds_toArray, List.set_cons_zero, List.set_cons_succ]
    refine held_take 1 28 (v := ?v302) rfl rfl (by kernel_rfl) (by kernel_rfl) (by kernel_rfl) (fun _ _ _ h => h) hHeld (Or.inl ⟨by rfl, ?y302⟩) ?r302
    case y302 => intro w hSw; (try dsimp only at hSw); go_simp; (try with_reducible rfl)
    simp only [List.setIfInBounds_toArray, List.set_cons_zero, List.set_cons_succ]
    refine held_take 2 29 (v := ?v303) rfl rfl (by kernel_rfl) (by kernel_rfl) (by kernel_rfl) (fun _ _ _ h => h) hHeld (Or.inl ⟨by rfl, ?y303⟩) ?r303
    case y303 => intro w hSw; (try dsimp only at hSw); go_simp; (try with_reducible rfl)
    simp only [List.setIfInBounds_toArray, List.set_cons_zero, List.set_cons_succ]
    refine held_take 3 30 (v := ?v304) rfl rfl (by kernel_rfl) (by kernel_rfl) (by kernel_rfl) (fun _ _ _ h => h) hHeld (Or.inl ⟨by rfl, ?y304⟩) ?r304
    case y304 => intro w hSw; (try dsimp only at hSw); go_simp; (try with_reducible rfl)
    simp only [List.setIfInBounds_toArray, List.set_cons_zero, List.set_cons_succ]
    refine held_take 5 32 (v := ?v305) rfl rfl (by kernel_rfl) (by kernel_rfl) (by kernel_rfl) (fun _ _ _ h => h) hHeld (Or.inl ⟨by rfl, ?y305⟩) ?r305
    case y305 => intro w hSw; (try dsimp only at hSw); go_simp; (try with_reducible rfl)
    simp only [List.setIfInBounds_toArray, List.set_cons_zero, List.set_cons_succ]
    refine held_take 8 35 (v := ?v306) rfl rfl (by kernel_rfl) (by kernel_rfl) (by kernel_rfl) (fun _ _ _ h => h) hHeld (Or.inl ⟨by rfl, ?y306⟩) ?r306
    case y306 => intro w hSw; (try dsimp only at hSw); go_simp; (try with_reducible rfl)
    simp only [List.setIfInBounds_toArray, List.set_cons_zero, List.set_cons_succ]
    refine held_take 9 36 (v := ?v307) rfl rfl (by kernel_rfl) (by kernel_rfl) (by kernel_rfl) (fun _ _ _ h => h) hHeld (Or.inl ⟨by rfl, ?y307⟩) ?r307
    case y307 => intro w hSw; (try dsimp only at hSw); go_simp; (try with_reducible rfl)
    simp only [List.setIfInBounds_toArray, List.set_cons_zero, List.set_cons_succ]
    refine held_take 10 37 (v := ?v308) rfl rfl (by kernel_rfl) (by kernel_rfl) (by kernel_rfl) (fun _ _ _ h => h) hHeld (Or.inl ⟨by rfl, ?y308⟩) ?r308
    case y308 => intro w hSw; (try dsimp only at hSw); go_simp; (try with_reducible rfl)
    simp only [List.setIfInBounds_toArray, List.set_cons_zero, List.set_cons_succ]
    refine held_take 12 39 (v := ?v309) rfl rfl (by kernel_rfl) (by kernel_rfl) (by kernel_rfl) (fun _ _ _ h => h) hHeld (Or.inl ⟨by rfl, ?y309⟩) ?r309
    case y309 => intro w hSw; (try dsimp only at hSw); go_simp; (try with_reducible rfl)
    simp only [List.setIfInBounds_toArray, List.set_cons_zero, List.set_cons_succ]
    refine held_take 13 40 (v := ?v310) rfl rfl (by kernel_rfl) (by kernel_rfl) (by kernel_rfl) (fun _ _ _ h => h) hHeld (Or.inl ⟨by rfl, ?y310⟩) ?r310
    case y310 => intro w hSw; (try dsimp only at hSw); go_simp; (try with_reducible rfl)
    simp only [List.setIfInBounds_toArray, List.set_cons_zero, List.set_cons_succ]
    refine wpAnyH_ready (rs := [4, 11]) (by kernel_rfl) (by simp) ?_
    refine AllReadyH.cons (o := ⟨some 31, _, _, _, _, _⟩) rfl (fun K hK => ?_) (AllReadyH.cons (o := ⟨some 38, _, _, _, _, _⟩) rfl (fun K hK => ?_) AllReadyH.nil)
    · (try rw [if_pos (by rfl)])
      have hcpx := HH.out _ HB0.out
      go_simp
      refine hK.out _ _ trivial (fun _ => ?_)
      clear hK K hcpx
      (try simp only [Act.put, List.setIfInBounds_toArray, List.set_cons_zero, List.set_cons_succ])
      refine held_take 6 33 (v := ?v400) rfl rfl (by kernel_rfl) (by kernel_rfl) (by kernel_rfl) (fun _ _ _ h => h) hHeld (Or.inl ⟨by rfl, ?y400⟩) ?r400
      case y400 => intro w hSw; (try dsimp only at hSw); go_simp; (try with_reducible rfl)
      simp only [List.setIfInBounds_toArray, List.set_cons_zero, List.set_cons_succ]
      refine wpAnyH_ready (rs := [7, 11]) (by kernel_rfl) (by simp) ?_
      refine AllReadyH.cons (o := ⟨some 34, _, _, _, _, _⟩) rfl (fun K hK => ?_) (AllReadyH.cons (o := ⟨some 38, _, _, _, _, _⟩) rfl (fun K hK => ?_) AllReadyH.nil)
      · rw [if_pos (by rfl)]
        refine wp_objs (.const (.slice none 0 0)) (.tmp 33) rfl _ _ rfl rfl (HAP1.out _ HB0.out) ?_
        rintro v2 W2 ⟨hr2, _⟩
        obtain ⟨A2, c2, h2e, _⟩ := row_form3 hr2.1
        rw [HTK.out] at h2e
        subst h2e
        refine hK.out _ _ trivial (fun _ => ?_)
        clear hK K
        (try simp only [Act.put, List.setIfInBounds_toArray, List.set_cons_zero, List.set_cons_succ])
        refine wpAnyH_ready (rs := [11]) (by kernel_rfl) (by simp) ?_
        refine AllReadyH.cons rfl (fun K hK => ?_) AllReadyH.nil
        (try rw [if_pos (by rfl)])
        have hcpx := HH.out _ hr2.2
        go_simp
        refine hK.out _ _ trivial (fun _ => ?_)
        clear hK K hcpx
        (try simp only [Act.put, List.setIfInBounds_toArray, List.set_cons_zero, List.set_cons_succ])
        refine held_take 14 41 (v := ?v420) rfl rfl (by kernel_rfl) (by kernel_rfl) (by kernel_rfl) (fun _ _ _ h => h) hHeld (Or.inl ⟨by rfl, ?y420⟩) ?r420
        case y420 => intro w hSw; (try dsimp only at hSw); go_simp; (try with_reducible rfl)
        simp only [List.setIfInBounds_toArray, List.set_cons_zero, List.set_cons_succ]
        refine wpAnyH_ready (rs := [15]) (by kernel_rfl) (by simp) ?_
        refine AllReadyH.cons (o := ⟨some 42, _, _, _, _, _⟩) rfl (fun K hK => ?_) AllReadyH.nil
        rw [if_pos (by rfl)]
        refine wp_objs (.tmp 34) (.tmp 41) rfl _ _ rfl rfl (HAP2.out _ _ hr2) ?_
        rintro v4 W4 ⟨hr4, _⟩
        obtain ⟨A4, c4, h4e, _⟩ := row_form3 hr4.1
        rw [HN4.out] at h4e
        subst h4e
        refine hK.out _ _ trivial (fun _ => ?_)
        clear hK K
        have hcp4 := HH.out _ hr4.2
        have hpf4 := HPF.out W4 hr4.2
        have FN := Lib.hid (HFIN.out W4 _ hr4)
        (try simp only [Act.put, List.setIfInBounds_toArray, List.set_cons_zero, List.set_cons_succ])
        refine held_take 16 43 (v := ?v440) rfl rfl (by kernel_rfl) (by kernel_rfl) (by kernel_rfl) (fun _ _ _ h => h) hHeld (Or.inl ⟨by rfl, ?y440⟩) ?r440
        case y440 => intro w hSw; (try dsimp only at hSw); go_simp; (try with_reducible rfl)
        simp only [List.setIfInBounds_toArray, List.set_cons_zero, List.set_cons_succ]
        refine held_take 17 44 (v := ?v441) rfl rfl (by kernel_rfl) (by kernel_rfl) (by kernel_rfl) (fun _ _ _ h => h) hHeld (Or.inl ⟨by rfl, ?y441⟩) ?r441
        case y441 => intro w hSw; (try dsimp only at hSw); go_simp; (try with_reducible rfl)
        simp only [List.setIfInBounds_toArray, List.set_cons_zero, List.set_cons_succ]
        refine wpAnyH_ready (rs := [18]) (by kernel_rfl) (by simp) ?_
        refine AllReadyH.cons rfl (fun K hK => ?_) AllReadyH.nil
        go_simp
        refine hK.out _ _ trivial (fun _ => ?_)
        clear hK K
        refine wpAnyH_done (by kernel_rfl) ?_ _
        clear hr2 hr4 hcp4 hpf4
        go_wp2_with fail
        all_goals (refine (HTD.out _).mono ?_; rintro e w9 ⟨rfl, rfl⟩; go_wp2; go_ret; exact HFF.out _ (OLeft.trans HW.out hL.keep FN.out))
      · (try rw [if_pos (by rfl)])
        have hcpx := HH.out _ HB0.out
        go_simp
        refine hK.out _ _ trivial (fun _ => ?_)
        clear hK K hcpx
        (try simp only [Act.put, List.setIfInBounds_toArray, List.set_cons_zero, List.set_cons_succ])
        refine held_take 14 41 (v := ?v460) rfl rfl (by kernel_rfl) (by kernel_rfl) (by kernel_rfl) (fun _ _ _ h => h) hHeld (Or.inl ⟨by rfl, ?y460⟩) ?r460
        case y460 => intro w hSw; (try dsimp only at hSw); go_simp; (try with_reducible rfl)
        simp only [List.setIfInBounds_toArray, List.set_cons_zero, List.set_cons_succ]
        refine wpAnyH_ready (rs := [7]) (by kernel_rfl) (by simp) ?_
        refine AllReadyH.cons (o := ⟨some 34, _, _, _, _, _⟩) rfl (fun K hK => ?_) AllReadyH.nil
        rw [if_pos (by rfl)]
        refine wp_objs (.const (.slice none 0 0)) (.tmp 33) rfl _ _ rfl rfl (HAP1.out _ HB0.out) ?_
        rintro v2 W2 ⟨hr2, _⟩
        obtain ⟨A2, c2, h2e, _⟩ := row_form3 hr2.1
        rw [HTK.out] at h2e
        subst h2e
        refine hK.out _ _ trivial (fun _ => ?_)
        clear hK K
        (try simp only [Act.put, List.setIfInBounds_toArray, List.set_cons_zero, List.set_cons_succ])
        refine wpAnyH_ready (rs := [15]) (by kernel_rfl) (by simp) ?_
        refine AllReadyH.cons (o := ⟨some 42, _, _, _, _, _⟩) rfl (fun K hK => ?_) AllReadyH.nil
        rw [if_pos (by rfl)]
        refine wp_objs (.tmp 34) (.tmp 41) rfl _ _ rfl rfl (HAP2.out _ _ hr2) ?_
        rintro v4 W4 ⟨hr4, _⟩
        obtain ⟨A4, c4, h4e, _⟩ := row_form3 hr4.1
        rw [HN4.out] at h4e
        subst h4e
        refine hK.out _ _ trivial (fun _ => ?_)
        clear hK K
        have hcp4 := HH.out _ hr4.2
        have hpf4 := HPF.out W4 hr4.2
        have FN := Lib.hid (HFIN.out W4 _ hr4)
        (try simp only [Act.put, List.setIfInBounds_toArray, List.set_cons_zero, List.set_cons_succ])
        refine held_take 16 43 (v := ?v480) rfl rfl (by kernel_rfl) (by kernel_rfl) (by kernel_rfl) (fun _ _ _ h => h) hHeld (Or.inl ⟨by rfl, ?y480⟩) ?r480
        case y480 => intro w hSw; (try dsimp only at hSw); go_simp; (try with_reducible rfl)
        simp only [List.setIfInBounds_toArray, List.set_cons_zero, List.set_cons_succ]
        refine held_take 17 44 (v := ?v481) rfl rfl (by kernel_rfl) (by kernel_rfl) (by kernel_rfl) (fun _ _ _ h => h) hHeld (Or.inl ⟨by rfl, ?y481⟩) ?r481
        case y481 => intro w hSw; (try dsimp only at hSw); go_simp; (try with_reducible rfl)
        simp only [List.setIfInBounds_toArray, List.set_cons_zero, List.set_cons_succ]
        refine wpAnyH_ready (rs := [18]) (by kernel_rfl) (by simp) ?_
        refine AllReadyH.cons rfl (fun K hK => ?_) AllReadyH.nil
        go_simp
        refine hK.out _ _ trivial (fun _ => ?_)
        clear hK K
        refine wpAnyH_done (by kernel_rfl) ?_ _
        clear hr2 hr4 hcp4 hpf4
        go_wp2_with fail
        all_goals (refine (HTD.out _).mono ?_; rintro e w9 ⟨rfl, rfl⟩; go_wp2; go_ret; exact HFF.out _ (OLeft.trans HW.out hL.keep FN.out))
    · (try rw [if_pos (by rfl)])
      have hcpx := HH.out _ HB0.out
      go_simp
      refine hK.out _ _ trivial (fun _ => ?_)
      clear hK K hcpx
      (try simp only [Act.put, List.setIfInBounds_toArray, List.set_cons_zero, List.set_cons_succ])
      refine held_take 14 41 (v := ?v500) rfl rfl (by kernel_rfl) (by kernel_rfl) (by kernel_rfl) (fun _ _ _ h => h) hHeld (Or.inl ⟨by rfl, ?y500⟩) ?r500
      case y500 => intro w hSw; (try dsimp only at hSw); go_simp; (try with_reducible rfl)
      simp only [List.setIfInBounds_toArray, List.set_cons_zero, List.set_cons_succ]
      refine wpAnyH_ready (rs := [4]) (by kernel_rfl) (by simp) ?_
      refine AllReadyH.cons rfl (fun K hK => ?_) AllReadyH.nil
      (try rw [if_pos (by rfl)])
      have hcpx := HH.out _ HB0.out
      go_simp
      refine hK.out _ _ trivial (fun _ => ?_)
      clear hK K hcpx
      (try simp only [Act.put, List.setIfInBounds_toArray, List.set_cons_zero, List.set_cons_succ])
      refine held_take 6 33 (v := ?v520) rfl rfl (by kernel_rfl) (by kernel_rfl) (by kernel_rfl) (fun _ _ _ h => h) hHeld (Or.inl ⟨by rfl, ?y520⟩) ?r520
      case y520 => intro w hSw; (try dsimp only at hSw); go_simp; (try with_reducible rfl)
      simp only [List.setIfInBounds_toArray, List.set_cons_zero, List.set_cons_succ]
      refine wpAnyH_ready (rs := [7]) (by kernel_rfl) (by simp) ?_
      refine AllReadyH.cons (o := ⟨some 34, _, _, _, _, _⟩) rfl (fun K hK => ?_) AllReadyH.nil
      rw [if_pos (by rfl)]
      refine wp_objs (.const (.slice none 0 0)) (.tmp 33) rfl _ _ rfl rfl (HAP1.out _ HB0.out) ?_
      rintro v2 W2 ⟨hr2, _⟩
      obtain ⟨A2, c2, h2e, _⟩ := row_form3 hr2.1
      rw [HTK.out] at h2e
      subst h2e
      refine hK.out _ _ trivial (fun _ => ?_)
      clear hK K
      (try simp only [Act.put, List.setIfInBounds_toArray, List.set_cons_zero, List.set_cons_succ])
      refine wpAnyH_ready (rs := [15]) (by kernel_rfl) (by simp) ?_
      refine AllReadyH.cons (o := ⟨some 42, _, _, _, _, _⟩) rfl (fun K hK => ?_) AllReadyH.nil
      rw [if_pos (by rfl)]
      refine wp_objs (.tmp 34) (.tmp 41) rfl _ _ rfl rfl (HAP2.out _ _ hr2) ?_
      rintro v4 W4 ⟨hr4, _⟩
      obtain ⟨A4, c4, h4e, _⟩ := row_form3 hr4.1
      rw [HN4.out] at h4e
      subst h4e
      refine hK.out _ _ trivial (fun _ => ?_)
      clear hK K
      have hcp4 := HH.out _ hr4.2
      have hpf4 := HPF.out W4 hr4.2
      have FN := Lib.hid (HFIN.out W4 _ hr4)
      (try simp only [Act.put, List.setIfInBounds_toArray, List.set_cons_zero, List.set_cons_succ])
      refine held_take 16 43 (v := ?v540) rfl rfl (by kernel_rfl) (by kernel_rfl) (by kernel_rfl) (fun _ _ _ h => h) hHeld (Or.inl ⟨by rfl, ?y540⟩) ?r540
      case y540 => intro w hSw; (try dsimp only at hSw); go_simp; (try with_reducible rfl)
      simp only [List.setIfInBounds_toArray, List.set_cons_zero, List.set_cons_succ]
      refine held_take 17 44 (v := ?v541) rfl rfl (by kernel_rfl) (by kernel_rfl) (by kernel_rfl) (fun _ _ _ h => h) hHeld (Or.inl ⟨by rfl, ?y541⟩) ?r541
      case y541 => intro w hSw; (try dsimp only at hSw); go_simp; (try with_reducible rfl)
      simp only [List.setIfInBounds_toArray, List.set_cons_zero, List.set_cons_succ]
      refine wpAnyH_ready (rs := [18]) (by kernel_rfl) (by simp) ?_
      refine AllReadyH.cons rfl (fun K hK => ?_) AllReadyH.nil
      go_simp
      refine hK.out _ _ trivial (fun _ => ?_)
      clear hK K
      refine wpAnyH_done (by kernel_rfl) ?_ _
      clear hr2 hr4 hcp4 hpf4
      go_wp2_with fail
      all_goals (refine (HTD.out _).mono ?_; rintro e w9 ⟨rfl, rfl⟩; go_wp2; go_ret; exact HFF.out _ (OLeft.trans HW.out hL.keep FN.out))
set_option maxHeartbeats 1600000 in
set_option maxRecDepth 4000 in
theorem osdel_any (hR : RStore base S w p room fs bad) (n : ByteArray) (hn : n.size ≤ maxLen) (hbl : bad.length ≤ 1000000) (hlen : fs.length ≤ 1000000000) :
    Calls Tryd.prog 21 #[.pointer (some ⟨p, 0, none⟩), .string n] w (ODoes base S p room bad.tail (faulty (bad.headD 0) (filesOf fs) (removeM (filesOf fs) n)) w) := by
  have HT := Lib.hid (osfault_any hR hbl)
  have HV := Lib.hid (fun W => refvalid_any n W hn)
  have HFD := Lib.hid (fun (w1 : World) (hL : OLeft base S w w1 p room fs bad.tail) => osfind_any base _ w1 p room fs bad.tail n hL.store)
  have HW := Lib.hid hR.1
  obtain ⟨k, hk⟩ : ∃ k, bad.headD 0 = k := ⟨_, rfl⟩
  have HS := fun hv hh => osdel_some hR n hn hbl hlen hv hh k hk
  rw [hk] at HT ⊢
  generalize bad.tail = bt at *
  clear hR hn hbl hk
  by_cases h0 : k = 0
  · subst h0
    rw [faulty_0]
    cases hv : validS n with
    | false =>
      rw [hv] at HV
      rw [goneM_bad hv]
      clear HS hv HFD
      go_enter Tryd.func21, Tryd.ntmps21
      go_wp2_with fail
      refine HT.out.mono ?_
      rintro e w1 ⟨rfl, hL⟩
      go_wp2_with fail
      refine (HV.out _).mono ?_
      rintro e w2 ⟨rfl, rfl⟩
      go_wp2
      go_ret
      exact ⟨rfl, fs, rfl, hL⟩
    | true =>
      rw [hv] at HV
      cases hh : hasF (filesOf fs) n with
      | false =>
        rw [goneM_none hv hh]
        rw [hh] at HFD
        clear HS hv hh
        go_enter Tryd.func21, Tryd.ntmps21
        go_wp2_with fail
        refine HT.out.mono ?_
        rintro e w1 ⟨rfl, hL⟩
        go_wp2_with fail
        refine (HV.out _).mono ?_
        rintro e w2 ⟨rfl, rfl⟩
        have HFN := Lib.hid (HFD.out w1 hL)
        go_wp2_with fail
        refine HFN.out.mono ?_
        rintro e w2 ⟨rfl, m, rfl⟩
        go_wp2
        go_ret
        exact ⟨rfl, fs, rfl, hL.more HW.out (below_drewN (Below.refl _ _) m)⟩
      | true =>
        rw [goneM_some hv hh]
        exact HS hv hh (.inl rfl)
  · by_cases h2 : k = 2
    · subst h2
      rw [faulty_2]
      cases hv : validS n with
      | false =>
        rw [hv] at HV
        rw [goneM_bad hv]
        clear HS hv HFD h0
        go_enter Tryd.func21, Tryd.ntmps21
        go_wp2_with fail
        refine HT.out.mono ?_
        rintro e w1 ⟨rfl, hL⟩
        go_wp2_with fail
        refine (HV.out _).mono ?_
        rintro e w2 ⟨rfl, rfl⟩
        go_wp2
        go_ret
        exact ⟨rfl, fs, rfl, hL⟩
      | true =>
        rw [hv] at HV
        cases hh : hasF (filesOf fs) n with
        | false =>
          rw [goneM_none hv hh]
          rw [hh] at HFD
          clear HS hv hh h0
          go_enter Tryd.func21, Tryd.ntmps21
          go_wp2_with fail
          refine HT.out.mono ?_
          rintro e w1 ⟨rfl, hL⟩
          go_wp2_with fail
          refine (HV.out _).mono ?_
          rintro e w2 ⟨rfl, rfl⟩
          have HFN := Lib.hid (HFD.out w1 hL)
          go_wp2_with fail
          refine HFN.out.mono ?_
          rintro e w2 ⟨rfl, m, rfl⟩
          go_wp2
          go_ret
          exact ⟨rfl, fs, rfl, hL.more HW.out (below_drewN (Below.refl _ _) m)⟩
        | true =>
          rw [goneM_some hv hh]
          exact HS hv hh (.inr rfl)
    · rw [faulty_no h0 h2]
      have b0 : (k != 0) = true := by simpa using h0
      have b2 : (k != 2) = true := by simpa using h2
      clear HFD HS HV h0 h2
      go_enter Tryd.func21, Tryd.ntmps21
      go_wp2_with fail
      refine HT.out.mono ?_
      rintro e w1 ⟨rfl, hL⟩
      go_wp2
      go_ret
      exact ⟨rfl, fs, rfl, hL⟩
end
end Go.Proofs.YtfbdmagonjjjoaaDoor
