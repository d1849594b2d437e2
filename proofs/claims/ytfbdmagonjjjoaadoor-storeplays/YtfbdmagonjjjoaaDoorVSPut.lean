/- A contract of the program's own put. -/
import Derived.Test.YtfbdmagonjjjoaaDoorVSGet
namespace Go.Proofs.YtfbdmagonjjjoaaDoor
open Go.RowKit Go.Maps

theorem keep_below {S : Nat → Prop} {w Wm W : World} (hk : Keep S w Wm) (hb : Below Wm.heap.size Wm W) : Keep S w W := hk.trans (S' := S) (Keep.of_below hb) fun _ _ h => h
section
variable {base : Nat} {S : Nat → Prop} {w : World} {p : Nat} {room : Int} {fs : List FileP} {bad : List Int}
theorem used_lay (hr : Rising (filesP fs)) (n : ByteArray) (ys : List Int) (v : Value) : (usedM (filesP fs) : Int) - ((ofName (filesP fs) n).b.length : Int) + (ys.length : Int) = ((usedM (filesP (layP fs ⟨⟨n, ys, 0⟩, v⟩)) : Nat) : Int) := by
  cases hh : hasF (filesP fs) n with
  | false =>
    have h1 := used_new (fs := fs) (y := ⟨⟨n, ys, 0⟩, v⟩) (not_file hr hh)
    rw [ofName_none hh, h1]
    simp
  | true =>
    obtain ⟨x, hx, rfl, _⟩ := has_file hh
    have h1 := used_over hr (y := ⟨⟨x.f.name, ys, 0⟩, v⟩) hx rfl
    have h2 := used_ge hx
    rw [ofName_has hr hx]
    show _ + _ = _
    have h1 : usedM (filesP (layP fs ⟨⟨x.f.name, ys, 0⟩, v⟩)) + x.f.b.length = usedM (filesP fs) + ys.length := h1
    omega
set_option maxHeartbeats 3200000 in
set_option maxRecDepth 4000 in
theorem vput_right (hV : VStore base S w p room fs bad) (n : ByteArray) (A : Option Addr) (ys : List Int) (c : Nat) (hn : n.size ≤ 281474976710656) (hT : Tabs w) (hv : validS n = true) (hr0 : 0 ≤ room) (hr1 : room ≤ 9223372036854775807) (hu : usedM (filesP fs) ≤ 1099511627776) (hys : IsBytes ys)
    (hl : LiesOff S w A ys) (hA : A = none → c = 0) (hcl : ys.length ≤ c) (hyl : ys.length ≤ 549755813888) (hlen : fs.length < 1000000000) (hfit : ¬ room - ((usedM (filesP fs) : Int) - ((ofName (filesP fs) n).b.length : Int)) < (ys.length : Int)) :
    Calls Tryd.prog 18 #[.pointer (some ⟨p, 0, none⟩), .string n, .slice A ys.length c] w (DoesI base S p room bad (putM room (filesP fs) n ys) w) := by
  have hnm : n.size ≤ maxLen := by unfold maxLen; omega
  have e1 : putM room (filesP fs) n ys = (layF (filesP fs) ⟨n, ys, 0⟩, 0) := by unfold putM; rw [if_neg (by rw [hv]; simp), if_neg hfit]
  rw [e1]
  have hc := valid_any n w hnm hT
  rw [hv] at hc
  have HC := Lib.hid hc
  obtain ⟨Ao, co, hle, hlk⟩ := look_len hV n hnm
  have LK := Lib.hid hlk
  have HCL := Lib.hid (fun W => sclone_any n W hn)
  have hbc : ∀ W, Keep S w W → Calls Tryd.prog 28 #[.slice A ys.length c] W (NewBytes W ys) := fun W hk => bclone_lies A ys c W (hl.keep hk).lies hA hcl hyl
  have fin : ∀ Wd, Below w.heap.size w Wd → ∀ Wm mb fv, Keep S Wd Wm → Wm.heap[p]? = some (.cells (storeCells room ((usedM (filesP fs) : Nat) : Int) (some mb) fv) 48 (0, 0)) → Grow S Wd Wm mb → Wm.ownsMap Tryd.prog 9 slElem mb fs.length (mapD fs) →
      (∀ i, i < Wd.heap.size → i ≠ p → Wm.heap[i]? = Wd.heap[i]?) → FailsLie S Wd fv bad → ∀ W1 v, Below Wm.heap.size Wm W1 → Own .u8 5 W1 Wm.heap.size v ys →
      ∃ W2, (Instr.mapUpdate 46 (.map (some mb)) (.string n) v).run Tryd.prog W1 = .ok () W2 ∧ W1.cell? ⟨p, 2, none⟩ = some (.map (some mb)) ∧ W2.cell? ⟨p, 2, none⟩ = some (.map (some mb)) ∧ W2.cell? ⟨p, 1, none⟩ = some (.int .i64 ((usedM (filesP fs) : Nat) : Int)) ∧ W2.frozen? ⟨p, 1, none⟩ = false ∧
        DoesI base S p room bad (layF (filesP fs) ⟨n, ys, 0⟩, 0) w (.returned (.iface 29 (.int .i64 0))) (W2.setCell ⟨p, 1, none⟩ (.int .i64 ((usedM (filesP fs) : Int) - ((ofName (filesP fs) n).b.length : Int) + (ys.length : Int)))) := fun Wd hbd Wm mb fv hk bp hmb ho hoth hfl W1 v hb hv => by
    obtain ⟨W2, h1, h2, h3, h4, h5, h6⟩ := set_fin (hV.below hbd) n ys hys hnm hlen Wm mb fv hk bp hmb ho hoth hfl W1 hb v hv
    refine ⟨W2, h1, h2, h3, h4, h5, rfl, layP fs ⟨⟨n, ys, 0⟩, v⟩, filesP_layP fs _, ?_⟩
    rw [used_lay hV.row.rising n ys v]
    exact Left.behind hbd (h6 _) hV.within
  have HV : ∀ Wd, Below w.heap.size w Wd → VStoreU base S Wd p room ((usedM (filesP fs) : Nat) : Int) fs bad := fun Wd hbd => hV.below hbd
  obtain ⟨U, hU⟩ : ∃ U, usedM (filesP fs) = U := ⟨_, rfl⟩
  obtain ⟨Lo, hLo⟩ : ∃ Lo, (ofName (filesP fs) n).b.length = Lo := ⟨_, rfl⟩
  obtain ⟨L, hL⟩ : ∃ L, ys.length = L := ⟨_, rfl⟩
  rw [hU] at hu hfit LK hle fin HV
  rw [hLo] at hfit LK hle fin
  rw [hL] at hfit hbc fin hyl ⊢
  have hw1 : wrap64 ((U : Int) - (Lo : Int)) = (U : Int) - (Lo : Int) := by unfold wrap64; omega
  have hw2 : wrap64 (room - ((U : Int) - (Lo : Int))) = room - ((U : Int) - (Lo : Int)) := by unfold wrap64; omega
  have hw3 : wrap64 ((U : Int) - (Lo : Int) + (L : Int)) = (U : Int) - (Lo : Int) + (L : Int) := by unfold wrap64; omega
  have hd : decide ((L : Int) > room - ((U : Int) - (Lo : Int))) = false := decide_eq_false hfit
  have BC0 := Lib.hid hbc
  have FN := Lib.hid fin
  have HVh := Lib.hid HV
  clear hV hn hnm hT hv e1 hc hlk hU hLo hL hl hbc fin HV hys hlen hcl
  go_enter Tryd.func18, Tryd.ntmps18
  go_wp2_with fail
  refine HC.out.mono ?_
  rintro e w1 ⟨rfl, hb⟩
  obtain ⟨mo, c0, c1, c2, _, hl⟩ := LK.out w1 hb
  go_wp2_with fail
  go_quiet (fail)
  have hbd : ∀ m, Below w.heap.size w (w1.drewN m) := fun m => below_drewN hb m
  have d0 : ∀ m, (w1.drewN m).cell? ⟨p, 0, none⟩ = some (.int .i64 room) := fun _ => c0
  have d2 : ∀ m, (w1.drewN m).cell? ⟨p, 2, none⟩ = some (.map mo) := fun _ => c2
  generalize hWd : w1.drewN _ = Wd
  have hbw : Below w.heap.size w Wd := by rw [← hWd]; exact hbd _
  have k0 : Wd.cell? ⟨p, 0, none⟩ = some (.int .i64 room) := by rw [← hWd]; exact d0 _
  have k2 : Wd.cell? ⟨p, 2, none⟩ = some (.map mo) := by rw [← hWd]; exact d2 _
  clear hWd hbd d0 d2 c0 c1 c2 hl HC LK hb
  obtain ⟨mo', fv, hp, hm, hfl⟩ := (HVh.out Wd hbw).block
  have hpl := (HVh.out Wd hbw).lt
  have hpS := (HVh.out Wd hbw).inS
  have z2 := (HVh.out Wd hbw).thaw 2
  have e2 : Wd.cell? ⟨p, 2, none⟩ = some (.map mo') := by unfold World.cell?; rw [hp]; rfl
  obtain rfl : mo = mo' := by
    rw [k2] at e2
    have := Option.some.inj e2
    exact Value.map.inj this
  have fn := FN.out Wd hbw
  have kd : Keep S w Wd := Keep.of_below hbw
  rcases hm with ⟨rfl, hfs⟩ | ⟨mb, rfl, h2, h3⟩
  · have hpa : (Wd.alloc (.map #[] 0)).heap[p]? = some (.cells (storeCells room (U : Int) none fv) 48 (0, 0)) := by rw [Below.heap_alloc _ _ p hpl]; exact hp
    have hkm : Keep S Wd ((Wd.alloc (.map #[] 0)).setCell ⟨p, 2, none⟩ (.map (some Wd.heap.size))) := ((Keep.refl S Wd).alloc _).setCell (p := ⟨p, 2, none⟩) (.inl hpS) _
    have bpm : ((Wd.alloc (.map #[] 0)).setCell ⟨p, 2, none⟩ (.map (some Wd.heap.size))).heap[p]? = some (.cells (storeCells room (U : Int) (some Wd.heap.size) fv) 48 (0, 0)) := by
      rw [Go.heap_setCell_same _ p 2 _ _ _ hpa]
      rfl
    have hset := fn ((Wd.alloc (.map #[] 0)).setCell ⟨p, 2, none⟩ (.map (some Wd.heap.size))) Wd.heap.size fv hkm bpm (.inr ⟨Nat.le_refl _, by simp⟩) (by
        rw [hfs]
        exact (World.ownsMap_made (H := Value) Wd Tryd.prog 9 slElem).setCell (a := ⟨p, 2, none⟩) (by show Wd.heap.size ≠ p; omega) _) (fun i h0 h1 => by rw [heap_setCell_other _ _ _ _ h1, Below.heap_alloc _ _ i h0]) hfl
    have hkw : Keep S w ((Wd.alloc (.map #[] 0)).setCell ⟨p, 2, none⟩ (.map (some Wd.heap.size))) := kd.trans hkm fun _ _ h => h
    have hbcl : ∀ W, Below ((Wd.alloc (.map #[] 0)).setCell ⟨p, 2, none⟩ (.map (some Wd.heap.size))).heap.size ((Wd.alloc (.map #[] 0)).setCell ⟨p, 2, none⟩ (.map (some Wd.heap.size))) W → Calls Tryd.prog 28 #[.slice A L c] W (NewBytes W ys) := fun W hb => BC0.out W (keep_below hkw hb)
    have hh : ∀ W, Below ((Wd.alloc (.map #[] 0)).setCell ⟨p, 2, none⟩ (.map (some Wd.heap.size))).heap.size ((Wd.alloc (.map #[] 0)).setCell ⟨p, 2, none⟩ (.map (some Wd.heap.size))) W → W.cell? ⟨p, 2, none⟩ = some (.map (some Wd.heap.size)) := fun W hb => by
      unfold World.cell?
      show (match W.heap[p]? with | some (.cells cs _ _) => _ | _ => _) = _
      rw [hb.block p (by simp; omega), bpm]
      rfl
    have ST := Lib.hid hset
    have BCL := Lib.hid hbcl
    have HH := Lib.hid hh
    have hmm := @run_makeMap Tryd.prog
    have c2a : (Wd.alloc (.map #[] 0)).cell? ⟨p, 2, none⟩ = some (.map none) := by unfold World.cell?; rw [hpa]; rfl
    have z2a : (Wd.alloc (.map #[] 0)).frozen? ⟨p, 2, none⟩ = false := by simp [World.frozen?, hpa]
    have hq : ∀ W : World, (binOp .eql 46 (.map none) (.map none)).run Tryd.prog W = .ok (.bool true) W := fun W => run_eql_map_nil W _ 9 32 none Tryd.underlying46
    clear hset hbcl hh hkw hkm bpm hp hpl hpa hpS hfs hfl fn kd FN BC0 HVh e2 hbw z2
    obtain ⟨mb, hmb⟩ : ∃ mb, Wd.heap.size = mb := ⟨_, rfl⟩
    rw [hmb] at ST BCL HH
    go_wp2_with fail
    generalize hWm : ((Wd.alloc (.map #[] 0)).setCell ⟨p, 2, none⟩ (.map (some mb))) = Wm at *
    clear k0 k2 c2a z2a hmm hWm hmb
    have hHeld : Wm.drew.cell? ⟨p, 2, none⟩ = some (.map (some mb)) := HH.out Wm.drew ⟨rfl, rfl, rfl, Nat.le_refl _, fun _ _ => rfl⟩
    go_wp2_with fail
    refine wp_region_held_drew (S := fun W => W.cell? ⟨p, 2, none⟩ = some (.map (some mb))) (by kernel_rfl) hHeld (fun hHeld => ?_)
    refine held_take 0 43 (v := ?v1) rfl rfl (by kernel_rfl) (by kernel_rfl) (by kernel_rfl) (fun _ _ _ h => h) hHeld (Or.inl ⟨by rfl, ?y1⟩) ?r1
    case y1 => intro w hSw; (try dsimp only at hSw); go_simp; (try with_reducible rfl)
    simp only [List.setIfInBounds_toArray, List.set_cons_zero, List.set_cons_succ]
    refine held_take 1 44 (v := ?v2) rfl rfl (by kernel_rfl) (by kernel_rfl) (by kernel_rfl) (fun _ _ _ h => h) hHeld (Or.inl ⟨by rfl, ?y2⟩) ?r2
    case y2 => intro w hSw; (try dsimp only at hSw); go_simp; (try with_reducible rfl)
    simp only [List.setIfInBounds_toArray, List.set_cons_zero, List.set_cons_succ]
    refine held_take 2 45 (v := ?v3) rfl rfl (by kernel_rfl) (by kernel_rfl) (by kernel_rfl) (fun _ _ _ h => h) hHeld (Or.inl ⟨by rfl, ?y3⟩) ?r3
    case y3 => intro w hSw; (try dsimp only at hSw); go_simp; (try with_reducible rfl)
    simp only [List.setIfInBounds_toArray, List.set_cons_zero, List.set_cons_succ]
    refine held_take 3 46 (v := ?v4) rfl rfl (by kernel_rfl) (by kernel_rfl) (by kernel_rfl) (fun _ _ _ h => h) hHeld (Or.inl ⟨by rfl, ?y4⟩) ?r4
    case y4 => intro w hSw; (try dsimp only at hSw); go_simp; (try with_reducible rfl)
    simp only [List.setIfInBounds_toArray, List.set_cons_zero, List.set_cons_succ]
    refine held_take 4 47 (v := ?v5) rfl rfl (by kernel_rfl) (by kernel_rfl) (by kernel_rfl) (fun _ _ _ h => h) hHeld (Or.inl ⟨by rfl, ?y5⟩) ?r5
    case y5 => intro w hSw; (try dsimp only at hSw); go_simp; (try with_reducible rfl)
    simp only [List.setIfInBounds_toArray, List.set_cons_zero, List.set_cons_succ]
    refine held_take 6 49 (v := ?v6) rfl rfl (by kernel_rfl) (by kernel_rfl) (by kernel_rfl) (fun _ _ _ h => h) hHeld (Or.inl ⟨by rfl, ?y6⟩) ?r6
    case y6 => intro w hSw; (try dsimp only at hSw); go_simp; (try with_reducible rfl)
    simp only [List.setIfInBounds_toArray, List.set_cons_zero, List.set_cons_succ]
    refine wpAnyH_ready (rs := [5]) (by kernel_rfl) (by simp) ?_
    refine AllReadyH.cons rfl (fun K hK => ?_) AllReadyH.nil
    go_simp
    refine (HCL.out _).mono ?_
    rintro e w5 ⟨rfl, hb5d⟩
    have hb5 : Below Wm.heap.size Wm w5 := below_undrew hb5d
    refine hK.out _ _ (HH.out w5 hb5) (fun _ => ?_)
    clear hK K hHeld hb5d
    have hHeld := HH.out w5 hb5
    refine wpAnyH_ready (rs := [7]) (by kernel_rfl) (by simp) ?_
    refine AllReadyH.cons rfl (fun K hK => ?_) AllReadyH.nil
    go_simp
    refine (BCL.out w5 hb5).mono ?_
    rintro e w6 ⟨v, rfl, ho, hb56⟩
    have hb6 : Below Wm.heap.size Wm w6 := hb5.trans (hb56.mono hb5.size)
    have ho6 : Own .u8 5 w6 Wm.heap.size v ys := ho.lower hb5.size
    obtain ⟨W2, hup, hc1, hc2, hd1, hz1, FIN⟩ := ST.out w6 v hb6 ho6
    refine hK.out _ _ hc1 (fun _ => ?_)
    clear hK K
    have hHeld := hc1
    refine wpAnyH_ready (rs := [8]) (by kernel_rfl) (by simp) ?_
    refine AllReadyH.cons rfl (fun K hK => ?_) AllReadyH.nil
    go_simp
    refine hK.out _ _ hc2 (fun _ => ?_)
    clear hK K hHeld
    refine wpAnyH_done (by kernel_rfl) ?_ _
    go_wp2
    go_ret
    exact FIN
  · have hset := fn Wd mb fv (Keep.refl S Wd) hp (.inl h2) h3 (fun _ _ _ => rfl) hfl
    have hbcl : ∀ W, Below Wd.heap.size Wd W → Calls Tryd.prog 28 #[.slice A L c] W (NewBytes W ys) := fun W hb => BC0.out W (keep_below kd hb)
    have hh : ∀ W, Below Wd.heap.size Wd W → W.cell? ⟨p, 2, none⟩ = some (.map (some mb)) := fun W hb => by
      unfold World.cell?
      show (match W.heap[p]? with | some (.cells cs _ _) => _ | _ => _) = _
      rw [hb.block p hpl, hp]
      rfl
    have ST := Lib.hid hset
    have BCL := Lib.hid hbcl
    have HH := Lib.hid hh
    have hq : ∀ W : World, (binOp .eql 46 (.map (some mb)) (.map none)).run Tryd.prog W = .ok (.bool false) W := fun W => run_eql_map_nil W _ 9 32 (some mb) Tryd.underlying46
    clear hset hbcl hh hp hpl hpS hfl fn kd FN BC0 HVh e2 hbw z2 h2 h3
    go_wp2_with fail
    clear k0 k2
    have hHeld : Wd.drew.cell? ⟨p, 2, none⟩ = some (.map (some mb)) := HH.out Wd.drew ⟨rfl, rfl, rfl, Nat.le_refl _, fun _ _ => rfl⟩
    refine wp_region_held_drew (S := fun W => W.cell? ⟨p, 2, none⟩ = some (.map (some mb))) (by kernel_rfl) hHeld (fun hHeld => ?_)
    refine held_take 0 43 (v := ?v21) rfl rfl (by kernel_rfl) (by kernel_rfl) (by kernel_rfl) (fun _ _ _ h => h) hHeld (Or.inl ⟨by rfl, ?y21⟩) ?r21
    case y21 => intro w hSw; (try dsimp only at hSw); go_simp; (try with_reducible rfl)
    simp only [List.setIfInBounds_toArray, List.set_cons_zero, List.set_cons_succ]
    refine held_take 1 44 (v := ?v22) rfl rfl (by kernel_rfl) (by kernel_rfl) (by kernel_rfl) (fun _ _ _ h => h) hHeld (Or.inl ⟨by rfl, ?y22⟩) ?r22
    case y22 => intro w hSw; (try dsimp only at hSw); go_simp; (try with_reducible rfl)
    simp only [List.setIfInBounds_toArray, List.set_cons_zero, List.set_cons_succ]
    refine held_take 2 45 (v := ?v23) rfl rfl (by kernel_rfl) (by kernel_rfl) (by kernel_rfl) (fun _ _ _ h => h) hHeld (Or.inl ⟨by rfl, ?y23⟩) ?r23
    case y23 => intro w hSw; (try dsimp only at hSw); go_simp; (try with_reducible rfl)
    simp only [List.setIfInBounds_toArray, List.set_cons_zero, List.set_cons_succ]
    refine held_take 3 46 (v := ?v24) rfl rfl (by kernel_rfl) (by kernel_rfl) (by kernel_rfl) (fun _ _ _ h => h) hHeld (Or.inl ⟨by rfl, ?y24⟩) ?r24
    case y24 => intro w hSw; (try dsimp only at hSw); go_simp; (try with_reducible rfl)
    simp only [List.setIfInBounds_toArray, List.set_cons_zero, List.set_cons_succ]
    refine held_take 4 47 (v := ?v25) rfl rfl (by kernel_rfl) (by kernel_rfl) (by kernel_rfl) (fun _ _ _ h => h) hHeld (Or.inl ⟨by rfl, ?y25⟩) ?r25
    case y25 => intro w hSw; (try dsimp only at hSw); go_simp; (try with_reducible rfl)
    simp only [List.setIfInBounds_toArray, List.set_cons_zero, List.set_cons_succ]
    refine held_take 6 49 (v := ?v26) rfl rfl (by kernel_rfl) (by kernel_rfl) (by kernel_rfl) (fun _ _ _ h => h) hHeld (Or.inl ⟨by rfl, ?y26⟩) ?r26
    case y26 => intro w hSw; (try dsimp only at hSw); go_simp; (try with_reducible rfl)
    simp only [List.setIfInBounds_toArray, List.set_cons_zero, List.set_cons_succ]
    refine wpAnyH_ready (rs := [5]) (by kernel_rfl) (by simp) ?_
    refine AllReadyH.cons rfl (fun K hK => ?_) AllReadyH.nil
    go_simp
    refine (HCL.out _).mono ?_
    rintro e w5 ⟨rfl, hb5d⟩
    have hb5 : Below Wd.heap.size Wd w5 := below_undrew hb5d
    refine hK.out _ _ (HH.out w5 hb5) (fun _ => ?_)
    clear hK K hHeld hb5d
    have hHeld := HH.out w5 hb5
    refine wpAnyH_ready (rs := [7]) (by kernel_rfl) (by simp) ?_
    refine AllReadyH.cons rfl (fun K hK => ?_) AllReadyH.nil
    go_simp
    refine (BCL.out w5 hb5).mono ?_
    rintro e w6 ⟨v, rfl, ho, hb56⟩
    have hb6 : Below Wd.heap.size Wd w6 := hb5.trans (hb56.mono hb5.size)
    have ho6 : Own .u8 5 w6 Wd.heap.size v ys := ho.lower hb5.size
    obtain ⟨W2, hup, hc1, hc2, hd1, hz1, FIN⟩ := ST.out w6 v hb6 ho6
    refine hK.out _ _ hc1 (fun _ => ?_)
    clear hK K
    have hHeld := hc1
    refine wpAnyH_ready (rs := [8]) (by kernel_rfl) (by simp) ?_
    refine AllReadyH.cons rfl (fun K hK => ?_) AllReadyH.nil
    go_simp
    refine hK.out _ _ hc2 (fun _ => ?_)
    clear hK K hHeld
    refine wpAnyH_done (by kernel_rfl) ?_ _
    go_wp2
    go_ret
    exact FIN
end
end Go.Proofs.YtfbdmagonjjjoaaDoor
