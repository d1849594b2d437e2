/- The program's own table of groups: what Rows answers, and what Set leaves. -/
import Derived.Test.YtmghlfhdjdlkbaaDoorVGrpNum
import Derived.Test.YtmghlfhdjdlkbaaDoorVGrpGet
import Derived.Test.YtmghlfhdjdlkbaaDoorStrClone
import Derived.Test.YtmghlfhdjdlkbaaDoorNameSize
namespace Go.Proofs.YtmghlfhdjdlkbaaDoor
open Go.RowKit

theorem grow_info : (Tryd.prog.info? 25).map (fun i => (i.zero, i.size, decide (i.bytes ≤ 1024))) = some (some (.agg #[.string ⟨#[]⟩, .int .i64 0]), 2, true) := by kernel_rfl
set_option maxHeartbeats 1600000 in
theorem grows_any {base g : Nat} {S : Nat → Prop} {w : World} {l : List PlaceM} (h : GTab base S w g l) :
    Calls Tryd.prog 12 #[.pointer (some ⟨g, 0, none⟩)] w (NewRowsG w l) := by
  have hc := h.count
  have hg := cell_block_lt hc
  have hfew := h.tab.few
  have hsl := fun (W : World) => slice_gtab_h g l.length W hfew
  have HB0 : Hid (Below w.heap.size w w.drew) := Lib.hid (below_drewN (Below.refl w.heap.size w) 1)
  have HR : Hid (∀ i (hi : i < l.length), RowAt placeRep w.drew noGB g (0 + i * placeRep.n) l[i]) := Lib.hid fun i hi => by
    obtain ⟨b, off, e, _, _, hr⟩ := h.rows.more hi
    injection e with e
    injection e with e1 e2
    subst e1 e2
    obtain ⟨cs, e, h2⟩ := hr
    exact ⟨cs, e, h2⟩
  clear h
  go_enter Tryd.func12, Tryd.ntmps12
  go_wp2_with fail
  refine wp_region_held_drew (S := fun W => W.cell? ⟨g, 200, none⟩ = some (.int .i64 (l.length : Int))) (by kernel_rfl) hc (fun hHeld => ?_)
  refine held_take 0 3 (v := ?v1) rfl rfl (by kernel_rfl) (by kernel_rfl) (by kernel_rfl) (fun _ _ _ h => h) hHeld (Or.inl ⟨by rfl, ?y1⟩) ?r1
  case y1 => intro w hSw; (try dsimp only at hSw); go_simp; (try with_reducible rfl)
  simp only [List.setIfInBounds_toArray, List.set_cons_zero, List.set_cons_succ]
  refine held_take 1 4 (v := ?v2) rfl rfl (by kernel_rfl) (by kernel_rfl) (by kernel_rfl) (fun _ _ _ h => h) hHeld (Or.inl ⟨by rfl, ?y2⟩) ?r2
  case y2 => intro w hSw; (try dsimp only at hSw); go_simp; (try with_reducible rfl)
  simp only [List.setIfInBounds_toArray, List.set_cons_zero, List.set_cons_succ]
  refine held_take 2 5 (v := ?v3) rfl rfl (by kernel_rfl) (by kernel_rfl) (by kernel_rfl) (fun _ _ _ h => h) hHeld (Or.inl ⟨by rfl, ?y3⟩) ?r3
  case y3 => intro w hSw; (try dsimp only at hSw); go_simp; (try with_reducible rfl)
  simp only [List.setIfInBounds_toArray, List.set_cons_zero, List.set_cons_succ]
  refine held_take 3 6 (v := ?v4) rfl rfl (by kernel_rfl) (by kernel_rfl) (by kernel_rfl) (fun _ _ _ h => h) hHeld (Or.inl ⟨by rfl, ?y4⟩) ?r4
  case y4 => intro w hSw; (try dsimp only at hSw); go_simp; (try with_reducible rfl)
  simp only [List.setIfInBounds_toArray, List.set_cons_zero, List.set_cons_succ]
  refine held_take 4 7 (v := ?v5) rfl rfl (by kernel_rfl) (by kernel_rfl) (by kernel_rfl) (fun _ _ _ h => h) hHeld (Or.inl ⟨by rfl, ?y5⟩) ?r5
  case y5 => intro w hSw; (try dsimp only at hSw); go_simp; (try with_reducible rfl)
  simp only [List.setIfInBounds_toArray, List.set_cons_zero, List.set_cons_succ]
  refine held_take 5 8 (v := ?v6) rfl rfl (by kernel_rfl) (by kernel_rfl) (by kernel_rfl) (fun _ _ _ h => h) hHeld (Or.inl ⟨by rfl, ?y6⟩) ?r6
  case y6 => intro w hSw; (try dsimp only at hSw); go_simp; (try with_reducible rfl)
  simp only [List.setIfInBounds_toArray, List.set_cons_zero, List.set_cons_succ]
  refine held_take 6 9 (v := ?v7) rfl rfl (by kernel_rfl) (by kernel_rfl) (by kernel_rfl) (fun _ _ _ h => h) hHeld (Or.inl ⟨by rfl, ?y7⟩) ?r7
  case y7 => intro w hSw; (try dsimp only at hSw); go_simp; (try with_reducible rfl)
  simp only [List.setIfInBounds_toArray, List.set_cons_zero, List.set_cons_succ]
  refine held_take 7 10 (v := ?v8) rfl rfl (by kernel_rfl) (by kernel_rfl) (by kernel_rfl) (fun _ _ _ h => h) hHeld (Or.inl ⟨by rfl, ?y8⟩) ?r8
  case y8 => intro w hSw; (try dsimp only at hSw); go_simp; (try with_reducible rfl)
  simp only [List.setIfInBounds_toArray, List.set_cons_zero, List.set_cons_succ]
  refine wpAnyH_ready (rs := [8]) (by kernel_rfl) (by simp) ?_
  refine AllReadyH.cons (o := ⟨some 11, _, _, _, _, _⟩) rfl (fun K hK => ?_) AllReadyH.nil
  rw [if_pos (by rfl)]
  refine wp_append_rows (R := placeRep) (S := noGB) (.const (.slice none 0 0)) (.tmp 10) 41 25 rfl Tryd.underlying41 (.agg #[.string ⟨#[]⟩, .int .i64 0]) grow_info rfl w.heap.size (.slice none 0 0) [] rfl OwnG.nil g 0 l.length 100 l rfl rfl HR.out (by simp; omega) HB0.out.size ?_
  intro v2 w2 hown2 hb2 hg2 _
  rw [List.nil_append] at hown2
  have HO2 := Lib.hid hown2
  have HB2 := Lib.hid (HB0.out.trans hb2)
  refine hK.out _ _ ((hb2.cell (p := ⟨g, 200, none⟩) hg).trans hc) (fun hHeld => ?_)
  clear hK K hown2 hb2 hg2
  (try simp only [Act.put, List.setIfInBounds_toArray, List.set_cons_zero, List.set_cons_succ])
  refine held_take 9 2 (v := ?v9) rfl rfl (by kernel_rfl) (by kernel_rfl) (by kernel_rfl) (fun _ _ _ h => h) hHeld (Or.inl ⟨by rfl, ?y9⟩) ?r9
  case y9 => intro w hSw; (try dsimp only at hSw); go_simp; (try with_reducible rfl)
  simp only [List.setIfInBounds_toArray, List.set_cons_zero, List.set_cons_succ]
  refine wpAnyH_done (by kernel_rfl) ?_ _
  clear hHeld
  go_wp2
  go_ret
  exact ⟨v2, rfl, HO2.out, HB2.out⟩
/-- What a call leaves that wrote the table's block alone. -/
theorem grleft_of {base g : Nat} {S : Nat → Prop} {w W : World} {l l' : List PlaceM} (h : GTab base S w g l) (hk : Keep S w W) {cs : Array Value} (hg : W.heap[g]? = some (.cells cs 28)) (hc : GTabCells l' cs) (ht : PlacesM l') : GrLeft base S w W g l' :=
  ⟨S, fun _ h => .inl h, hk, h.within.more hk.size, h.at_, ht, cs, hg, hc⟩
theorem keep_setRowG {S : Nat → Prop} {w w' : World} (h : Keep S w w') {g : Nat} (hg : S g) (cs : Array Value) : Keep S w (w'.setRow g cs) :=
  ⟨h.os, h.tape, h.output, by simpa [World.setRow] using h.size, fun i hi hn => (setRow_other w' g i cs (by rintro rfl; exact hn hg)).trans (h.block i hi hn)⟩
theorem heap_rowG {w : World} {g k : Nat} {cs : Array Value} {t : TypeId} (hg : w.heap[g]? = some (.cells cs t)) (x : PlaceM) :
    ((w.setCell ⟨g, k * 2, none⟩ (.string x.name)).setCell ⟨g, k * 2 + 1, none⟩ (.int .i64 x.off)).heap[g]? = some (.cells (rowG cs k x) t) :=
  heap_setCell_same _ _ _ _ _ _ (heap_setCell_same _ _ _ _ _ _ hg)
/-- The cells of a row, in a world where the table's block is that. -/
theorem gtab_cells {w : World} {g k : Nat} {cs : Array Value} (hg : w.heap[g]? = some (.cells cs 28)) (hz : cs.size = 201) (hk : k < 100) :
    ∃ u0 u1, w.cell? ⟨g, k * 2, none⟩ = some u0 ∧ w.cell? ⟨g, k * 2 + 1, none⟩ = some u1 := by
  have hc : ∀ j : Nat, w.cell? ⟨g, j, none⟩ = cs[j]? := fun j => by unfold World.cell?; rw [hg]; rfl
  exact ⟨cs[k * 2]'(by omega), cs[k * 2 + 1]'(by omega), (hc _).trans (Array.getElem?_eq_getElem _), (hc _).trans (Array.getElem?_eq_getElem _)⟩
theorem gtab_thaw {w : World} {g j : Nat} {cs : Array Value} (hg : w.heap[g]? = some (.cells cs 28)) : w.frozen? ⟨g, j, none⟩ = false := by simp [World.frozen?, hg]
set_option maxHeartbeats 3200000 in
theorem gset_of {base g : Nat} {S : Nat → Prop} {w : World} {l : List PlaceM} (h : GTab base S w g l) (x : PlaceM) (hx : x.wf)
    (hval : Calls Tryd.prog 13 #[.string x.name] w (fun e w' => e = .returned (.bool (validS x.name)) ∧ Below w.heap.size w w')) :
    Calls Tryd.prog 6 #[.pointer (some ⟨g, 0, none⟩), .string x.name, .int .i64 x.off] w (fun e w' => e = .returned (.int .i64 (setN l x).2) ∧ GrLeft base S w w' g (setN l x).1) := by
  have HV := Lib.hid hval
  have HT := Lib.hid h
  have HTS := Lib.hid (h.tab.set hx)
  have hfew := h.tab.few
  obtain ⟨xn, xo⟩ := x
  have HF := Lib.hid (fun (W : World) (h : GTab base S W g l) => gfind_any h xn)
  clear h hx hval
  dsimp only at HV ⊢
  go_enter Tryd.func6, Tryd.ntmps6
  go_wp2_with fail
  refine HV.out.mono ?_
  rintro e w1 ⟨rfl, hb1⟩
  have HB1 := Lib.hid hb1
  have HT1 : Hid (GTab base S w1 g l) := Lib.hid (HT.out.keep (U := Nobody) (Keep.of_below hb1) fun _ _ h => h)
  clear hb1 HV
  cases hv : validS xn with
  | false =>
    have HS : Hid (setN l ⟨xn, xo⟩ = (l, 6)) := Lib.hid (if_pos hv)
    clear hv
    go_wp2_with fail
    go_ret
    rw [HS.out]
    exact ⟨rfl, S, fun _ h => .inl h, Keep.of_below HB1.out, HT1.out⟩
  | true =>
    have HVT := Lib.hid hv
    have HCL := Lib.hid (fun (W : World) => sclone_any xn W (by have := name_size hv; omega))
    clear hv
    go_wp2_with fail
    refine (HF.out _ HT1.out).mono ?_
    rintro e w2 ⟨k, hk, rfl, hb⟩
    have HB := Lib.hid (HB1.out.trans (hb.mono HB1.out.size))
    have HT2 : Hid (GTab base S w2 g l) := Lib.hid (HT1.out.keep (U := Nobody) (Keep.of_below hb) fun _ _ h => h)
    have HK := Lib.hid hk
    clear hb hk HF HB1 HT1
    by_cases hq : ∃ h : k < l.length, l[k].name = xn
    · obtain ⟨hkl, hkp⟩ := hq
      have dq : decide (∃ h : k < l.length, l[k].name = xn) = true := decide_eq_true ⟨hkl, hkp⟩
      have HS : Hid (setN l ⟨xn, xo⟩ = (l.take k ++ ⟨xn, xo⟩ :: l.drop (k + 1), 0)) := Lib.hid (by
        unfold setN
        rw [if_neg (by rw [HVT.out]; decide), if_neg (by rw [hasN_over hkl hkp]; simp), putN_over HK.out.1 hkl hkp])
      generalize decide (∃ h : k < l.length, l[k].name = xn) = dd at *
      subst dq
      obtain ⟨_, _, _, cs, hg2, hcs⟩ := id HT2.out
      have HG := Lib.hid hg2
      have HC := Lib.hid (hcs.off ⟨xn, xo⟩ hkl hkp hfew)
      obtain ⟨u0, u1, c0, c1⟩ := gtab_cells (k := k) hg2 hcs.size (by omega)
      have f1 : w2.frozen? ⟨g, k * 2 + 1, none⟩ = false := gtab_thaw hg2
      have hk1 : (k : Int) < 100 := by omega
      have hk2 : k < 100 := by omega
      clear hg2 hcs hkp HK HT2 HCL HVT c0
      go_wp2_with fail
      go_ret
      have hT := HTS.out
      rw [HS.out] at hT ⊢
      exact ⟨rfl, grleft_of HT.out ((Keep.of_below HB.out).setCell (p := ⟨g, k * 2 + 1, none⟩) (.inl HT.out.at_) _) (heap_setCell_same _ _ _ _ _ _ HG.out) HC.out hT⟩
    · have dq : decide (∃ h : k < l.length, l[k].name = xn) = false := decide_eq_false hq
      have HBT := Lib.hid (HK.out.between hq)
      have HN := Lib.hid (hasN_between HT2.out.tab.sorted HK.out.1 HBT.out)
      generalize decide (∃ h : k < l.length, l[k].name = xn) = dd at *
      subst dq
      clear hq
      have hc := HT2.out.count
      have hgl := cell_block_lt hc
      by_cases h100 : l.length = 100
      · have b1 : ((l.length : Int) == 100) = true := by simp; omega
        have HS : Hid (setN l ⟨xn, xo⟩ = (l, 7)) := Lib.hid (by
          unfold setN
          rw [if_neg (by rw [HVT.out]; decide), if_pos ⟨HN.out, by omega⟩])
        have b2 : (l.length == 100) = true := by simpa using h100
        clear HBT HN HK h100 hfew HCL HVT
        go_wp2_with fail
        go_ret
        rw [HS.out]
        exact ⟨rfl, S, fun _ h => .inl h, Keep.of_below HB.out, HT2.out⟩
      · have b1 : ((l.length : Int) == 100) = false := by simp; omega
        have b2 : (l.length == 100) = false := by simpa using h100
        have HS : Hid (setN l ⟨xn, xo⟩ = (l.take k ++ ⟨xn, xo⟩ :: l.drop k, 0)) := Lib.hid (by
          unfold setN
          rw [if_neg (by rw [HVT.out]; decide), if_neg fun h => h100 (Nat.le_antisymm hfew h.2), putN_between HK.out.1 HBT.out])
        have hkl : k ≤ l.length := HK.out.1.1
        obtain ⟨_, _, _, cs, hg2, hcs⟩ := id HT2.out
        have hn : l.length < 100 := by omega
        have hs1 := fun (W : World) => slice_gtab_l g (k + 1) W (by omega)
        rw [show ((k + 1 : Nat) : Int) = (k : Int) + 1 by omega] at hs1
        have hw : IntKind.i64.wrap ((k : Int) + 1) = (k : Int) + 1 := (IntWalk.i64_left _).trans (by simp only [wrap64]; omega)
        have hs2 := fun (W : World) => slice_gtab_lh g k l.length W hkl hfew
        have HCP := Lib.hid (run_copy_gtab w2.drew g k l.length 3 cs hcs.size hcs.one hg2 hkl hn)
        rw [show 100 - (k + 1) = 99 - k by omega] at HCP
        have HG3 : Hid ((w2.drew.setRow g (movedG cs k l.length)).heap[g]? = some (.cells (movedG cs k l.length) 28)) := Lib.hid (setRow_heap w2.drew g cs _ _ _ hg2)
        have hc3 : (w2.drew.setRow g (movedG cs k l.length)).cell? ⟨g, 200, none⟩ = some (.int .i64 (l.length : Int)) := by
          unfold World.cell?
          rw [HG3.out]
          show (movedG cs k l.length)[200]? = _
          rw [movedG_at hcs.size hkl hn, if_neg (by omega), if_neg (by omega)]
          exact hcs.count
        have HCS := Lib.hid hcs
        have HKP : Hid (Keep S w (w2.drew.setRow g (movedG cs k l.length))) := Lib.hid (keep_setRowG (Keep.of_below HB.out).drew HT.out.at_ _)
        clear hg2 hcs HBT HN HK HT2 h100 HVT
        go_wp2_with fail
        refine wp_region_held_drew (S := fun W => W.cell? ⟨g, 200, none⟩ = some (.int .i64 (l.length : Int))) (by kernel_rfl) hc (fun hHeld => ?_)
        refine held_take 0 31 (v := ?v100) rfl rfl (by kernel_rfl) (by kernel_rfl) (by kernel_rfl) (fun _ _ _ h => h) hHeld (Or.inl ⟨by rfl, ?y100⟩) ?r100
        case y100 => intro w hSw; (try dsimp only at hSw); go_simp; (try with_reducible rfl)
        simp only [List.setIfInBounds_toArray, List.set_cons_zero, List.set_cons_succ]
        refine held_take 1 32 (v := ?v101) rfl rfl (by kernel_rfl) (by kernel_rfl) (by kernel_rfl) (fun _ _ _ h => h) hHeld (Or.inl ⟨by rfl, ?y101⟩) ?r101
        case y101 => intro w hSw; (try dsimp only at hSw); go_simp; (try with_reducible rfl)
        simp only [List.setIfInBounds_toArray, List.set_cons_zero, List.set_cons_succ]
        refine held_take 2 33 (v := ?v102) rfl rfl (by kernel_rfl) (by kernel_rfl) (by kernel_rfl) (fun _ _ _ h => h) hHeld (Or.inl ⟨by rfl, ?y102⟩) ?r102
        case y102 => intro w hSw; (try dsimp only at hSw); go_simp; (try with_reducible rfl)
        simp only [List.setIfInBounds_toArray, List.set_cons_zero, List.set_cons_succ]
        refine held_take 3 34 (v := ?v103) rfl rfl (by kernel_rfl) (by kernel_rfl) (by kernel_rfl) (fun _ _ _ h => h) hHeld (Or.inl ⟨by rfl, ?y103⟩) ?r103
        case y103 => intro w hSw; (try dsimp only at hSw); go_simp; (try with_reducible rfl)
        simp only [List.setIfInBounds_toArray, List.set_cons_zero, List.set_cons_succ]
        refine held_take 4 35 (v := ?v104) rfl rfl (by kernel_rfl) (by kernel_rfl) (by kernel_rfl) (fun _ _ _ h => h) hHeld (Or.inl ⟨by rfl, ?y104⟩) ?r104
        case y104 => intro w hSw; (try dsimp only at hSw); go_simp; (try with_reducible rfl)
        simp only [List.setIfInBounds_toArray, List.set_cons_zero, List.set_cons_succ]
        refine held_take 5 36 (v := ?v105) rfl rfl (by kernel_rfl) (by kernel_rfl) (by kernel_rfl) (fun _ _ _ h => h) hHeld (Or.inl ⟨by rfl, ?y105⟩) ?r105
        case y105 => intro w hSw; (try dsimp only at hSw); go_simp; (try with_reducible rfl)
        simp only [List.setIfInBounds_toArray, List.set_cons_zero, List.set_cons_succ]
        refine held_take 6 37 (v := ?v106) rfl rfl (by kernel_rfl) (by kernel_rfl) (by kernel_rfl) (fun _ _ _ h => h) hHeld (Or.inl ⟨by rfl, ?y106⟩) ?r106
        case y106 => intro w hSw; (try dsimp only at hSw); go_simp; (try with_reducible rfl)
        simp only [List.setIfInBounds_toArray, List.set_cons_zero, List.set_cons_succ]
        refine held_take 7 38 (v := ?v107) rfl rfl (by kernel_rfl) (by kernel_rfl) (by kernel_rfl) (fun _ _ _ h => h) hHeld (Or.inl ⟨by rfl, ?y107⟩) ?r107
        case y107 => intro w hSw; (try dsimp only at hSw); go_simp; (try with_reducible rfl)
        simp only [List.setIfInBounds_toArray, List.set_cons_zero, List.set_cons_succ]
        refine held_take 8 39 (v := ?v108) rfl rfl (by kernel_rfl) (by kernel_rfl) (by kernel_rfl) (fun _ _ _ h => h) hHeld (Or.inl ⟨by rfl, ?y108⟩) ?r108
        case y108 => intro w hSw; (try dsimp only at hSw); go_simp; (try with_reducible rfl)
        simp only [List.setIfInBounds_toArray, List.set_cons_zero, List.set_cons_succ]
        refine held_take 9 40 (v := ?v109) rfl rfl (by kernel_rfl) (by kernel_rfl) (by kernel_rfl) (fun _ _ _ h => h) hHeld (Or.inl ⟨by rfl, ?y109⟩) ?r109
        case y109 => intro w hSw; (try dsimp only at hSw); go_simp; (try with_reducible rfl)
        simp only [List.setIfInBounds_toArray, List.set_cons_zero, List.set_cons_succ]
        refine held_take 10 41 (v := ?v110) rfl rfl (by kernel_rfl) (by kernel_rfl) (by kernel_rfl) (fun _ _ _ h => h) hHeld (Or.inl ⟨by rfl, ?y110⟩) ?r110
        case y110 => intro w hSw; (try dsimp only at hSw); go_simp; (try with_reducible rfl)
        simp only [List.setIfInBounds_toArray, List.set_cons_zero, List.set_cons_succ]
        refine held_take 11 42 (v := ?v111) rfl rfl (by kernel_rfl) (by kernel_rfl) (by kernel_rfl) (fun _ _ _ h => h) hHeld (Or.inl ⟨by rfl, ?y111⟩) ?r111
        case y111 => intro w hSw; (try dsimp only at hSw); go_simp; (try with_reducible rfl)
        simp only [List.setIfInBounds_toArray, List.set_cons_zero, List.set_cons_succ]
        refine held_take 12 43 (v := ?v112) rfl rfl (by kernel_rfl) (by kernel_rfl) (by kernel_rfl) (fun _ _ _ h => h) hHeld (Or.inl ⟨by rfl, ?y112⟩) ?r112
        case y112 => intro w hSw; (try dsimp only at hSw); go_simp; (try with_reducible rfl)
        simp only [List.setIfInBounds_toArray, List.set_cons_zero, List.set_cons_succ]
        refine held_take 13 44 (v := ?v113) rfl rfl (by kernel_rfl) (by kernel_rfl) (by kernel_rfl) (fun _ _ _ h => h) hHeld (Or.inl ⟨by rfl, ?y113⟩) ?r113
        case y113 => intro w hSw; (try dsimp only at hSw); go_simp; (try with_reducible rfl)
        simp only [List.setIfInBounds_toArray, List.set_cons_zero, List.set_cons_succ]
        refine held_take 14 45 (v := ?v114) rfl rfl (by kernel_rfl) (by kernel_rfl) (by kernel_rfl) (fun _ _ _ h => h) hHeld (Or.inl ⟨by rfl, ?y114⟩) ?r114
        case y114 => intro w hSw; (try dsimp only at hSw); go_simp; (try with_reducible rfl)
        simp only [List.setIfInBounds_toArray, List.set_cons_zero, List.set_cons_succ]
        refine wpAnyH_ready (rs := [15]) (by kernel_rfl) (by simp) ?_
        refine AllReadyH.cons (o := ⟨some 46, _, _, _, _, _⟩) rfl (fun K hK => ?_) AllReadyH.nil
        rw [if_pos (by rfl)]
        refine wp_copy_gtab (.tmp 36) (.tmp 45) rfl g k l.length rfl rfl _ HCP.out ?_
        refine hK.out _ _ hc3 (fun hHeld => ?_)
        clear hK K
        (try simp only [Act.put, List.setIfInBounds_toArray, List.set_cons_zero, List.set_cons_succ])
        refine wpAnyH_done (by kernel_rfl) ?_ _
        clear hHeld HCP hc hc3 hgl hw hs1 hs2
        have HCB := Lib.hid (HCS.out.between ⟨xn, xo⟩ hkl hn)
        have HCN := Lib.hid (HCS.out.counted ⟨xn, xo⟩ hkl hn)
        have hms := movedG_size HCS.out.size hkl hn
        generalize movedG cs k l.length = C1 at *
        generalize w2.drew.setRow g C1 = w3 at *
        have hk1 : (k : Int) < 100 := by omega
        have hk2 : k < 100 := by omega
        go_wp2_with fail
        refine wp_region_held_drew (S := fun _ => True) (by kernel_rfl) trivial (fun hHeld => ?_)
        refine held_take 0 47 (v := ?v200) rfl rfl (by kernel_rfl) (by kernel_rfl) (by kernel_rfl) (fun _ _ _ h => h) hHeld (Or.inl ⟨by rfl, ?y200⟩) ?r200
        case y200 => intro w hSw; (try dsimp only at hSw); go_simp; (try with_reducible rfl)
        simp only [List.setIfInBounds_toArray, List.set_cons_zero, List.set_cons_succ]
        refine held_take 1 48 (v := ?v201) rfl rfl (by kernel_rfl) (by kernel_rfl) (by kernel_rfl) (fun _ _ _ h => h) hHeld (Or.inl ⟨by rfl, ?y201⟩) ?r201
        case y201 => intro w hSw; (try dsimp only at hSw); go_simp; (try with_reducible rfl)
        simp only [List.setIfInBounds_toArray, List.set_cons_zero, List.set_cons_succ]
        refine held_take 2 49 (v := ?v202) rfl rfl (by kernel_rfl) (by kernel_rfl) (by kernel_rfl) (fun _ _ _ h => h) hHeld (Or.inl ⟨by rfl, ?y202⟩) ?r202
        case y202 => intro w hSw; (try dsimp only at hSw); go_simp; (try with_reducible rfl)
        simp only [List.setIfInBounds_toArray, List.set_cons_zero, List.set_cons_succ]
        refine held_take 4 51 (v := ?v203) rfl rfl (by kernel_rfl) (by kernel_rfl) (by kernel_rfl) (fun _ _ _ h => h) hHeld (Or.inl ⟨by rfl, ?y203⟩) ?r203
        case y203 => intro w hSw; (try dsimp only at hSw); go_simp; (try with_reducible rfl)
        simp only [List.setIfInBounds_toArray, List.set_cons_zero, List.set_cons_succ]
        refine held_take 6 53 (v := ?v204) rfl rfl (by kernel_rfl) (by kernel_rfl) (by kernel_rfl) (fun _ _ _ h => h) hHeld (Or.inl ⟨by rfl, ?y204⟩) ?r204
        case y204 => intro w hSw; (try dsimp only at hSw); go_simp; (try with_reducible rfl)
        simp only [List.setIfInBounds_toArray, List.set_cons_zero, List.set_cons_succ]
        refine held_take 7 54 (v := ?v205) rfl rfl (by kernel_rfl) (by kernel_rfl) (by kernel_rfl) (fun _ _ _ h => h) hHeld (Or.inl ⟨by rfl, ?y205⟩) ?r205
        case y205 => intro w hSw; (try dsimp only at hSw); go_simp; (try with_reducible rfl)
        simp only [List.setIfInBounds_toArray, List.set_cons_zero, List.set_cons_succ]
        refine wpAnyH_ready (rs := [3]) (by kernel_rfl) (by simp) ?_
        refine AllReadyH.cons rfl (fun K hK => ?_) AllReadyH.nil
        go_simp
        refine (HCL.out _).mono ?_
        rintro e w5 ⟨rfl, hb5⟩
        have HB5 : Hid (Below w3.heap.size w3 w5) := Lib.hid (below_undrew hb5)
        refine hK.out _ _ trivial (fun hHeld => ?_)
        clear hK K hb5
        (try simp only [Act.put, List.setIfInBounds_toArray, List.set_cons_zero, List.set_cons_succ])
        refine held_take 5 52 (v := ?v206) rfl rfl (by kernel_rfl) (by kernel_rfl) (by kernel_rfl) (fun _ _ _ h => h) hHeld (Or.inl ⟨by rfl, ?y206⟩) ?r206
        case y206 => intro w hSw; (try dsimp only at hSw); go_simp; (try with_reducible rfl)
        simp only [List.setIfInBounds_toArray, List.set_cons_zero, List.set_cons_succ]
        refine held_take 8 55 (v := ?v207) rfl rfl (by kernel_rfl) (by kernel_rfl) (by kernel_rfl) (fun _ _ _ h => h) hHeld (Or.inl ⟨by rfl, ?y207⟩) ?r207
        case y207 => intro w hSw; (try dsimp only at hSw); go_simp; (try with_reducible rfl)
        simp only [List.setIfInBounds_toArray, List.set_cons_zero, List.set_cons_succ]
        have hgl : g < w3.heap.size := (Array.getElem?_eq_some_iff.1 HG3.out).1
        have HG5 : Hid (w5.heap[g]? = some (.cells C1 28)) := Lib.hid ((HB5.out.block g hgl).trans HG3.out)
        obtain ⟨u0, u1, c0, c1⟩ := gtab_cells (k := k) HG5.out hms (by omega)
        have f0 : w5.frozen? ⟨g, k * 2, none⟩ = false := gtab_thaw HG5.out
        have f1 : w5.frozen? ⟨g, k * 2 + 1, none⟩ = false := gtab_thaw HG5.out
        have HG6 := Lib.hid (heap_rowG (k := k) HG5.out ⟨xn, xo⟩)
        have HK6 : Hid (Keep S w ((w5.setCell ⟨g, k * 2, none⟩ (.string xn)).setCell ⟨g, k * 2 + 1, none⟩ (.int .i64 xo))) := Lib.hid ((((HKP.out.trans (Keep.of_below HB5.out) fun _ _ h => h).setCell (p := ⟨g, k * 2, none⟩) (.inl HT.out.at_) _).setCell (p := ⟨g, k * 2 + 1, none⟩) (.inl HT.out.at_) _))
        refine wpAnyH_ready (rs := [9]) (by kernel_rfl) (by simp) ?_
        refine AllReadyH.cons rfl (fun K hK => ?_) AllReadyH.nil
        go_simp
        refine hK.out _ _ trivial (fun hHeld => ?_)
        clear hK K
        refine wpAnyH_done (by kernel_rfl) ?_ _
        clear hHeld c0 c1 f0 f1
        dsimp only at HG6
        generalize (w5.setCell ⟨g, k * 2, none⟩ (.string xn)).setCell ⟨g, k * 2 + 1, none⟩ (.int .i64 xo) = w6 at *
        have hc6 : w6.cell? ⟨g, 200, none⟩ = some (.int .i64 (l.length : Int)) := by
          unfold World.cell?
          rw [HG6.out]
          exact HCN.out
        have f6 : w6.frozen? ⟨g, 200, none⟩ = false := gtab_thaw HG6.out
        have hw2 : wrap64 ((l.length : Int) + 1) = (l.length : Int) + 1 := by simp only [wrap64]; omega
        clear hms hkl hn
        go_wp2_with fail
        go_ret
        have hT := HTS.out
        rw [HS.out] at hT ⊢
        exact ⟨rfl, grleft_of HT.out (HK6.out.setCell (p := ⟨g, 200, none⟩) (.inl HT.out.at_) _) (heap_setCell_same _ _ _ _ _ _ HG6.out) HCB.out hT⟩
end Go.Proofs.YtmghlfhdjdlkbaaDoor
