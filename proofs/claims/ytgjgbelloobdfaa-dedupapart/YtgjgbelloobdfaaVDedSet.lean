/- The program's own table of producers: what Rows answers, and what Set leaves. -/
import Derived.Test.YtgjgbelloobdfaaVDedNum
import Derived.Test.YtgjgbelloobdfaaVDedAsk
namespace Go.Proofs.Ytgjgbelloobdfaa
open Go.RowKit

theorem row_info : (Try.prog.info? 25).map (fun i => (i.zero, i.size, decide (i.bytes ≤ 1024))) = some (some (.agg #[.int .i64 0, .int .i64 0, .int .i64 0]), 3, true) := by kernel_rfl
set_option maxHeartbeats 1600000 in
theorem prows_any {base g : Nat} {S : Nat → Prop} {w : World} {l : List PidM} (h : PTab base S w g l) :
    Calls Try.prog 14 #[.pointer (some ⟨g, 0, none⟩)] w (NewRowsP w l) := by
  have hc := h.count
  have hg := cell_block_lt hc
  have hfew := h.tab.few
  have hsl := fun (W : World) => slice_tab_h g l.length W hfew
  have HB0 : Hid (Below w.heap.size w w.drew) := Lib.hid (below_drewN (Below.refl w.heap.size w) 1)
  have HR : Hid (∀ i (hi : i < l.length), RowAt pidRep w.drew noPB g (0 + i * pidRep.n) l[i]) := Lib.hid fun i hi => by
    obtain ⟨b, off, e, _, _, hr⟩ := h.rows.more hi
    injection e with e
    injection e with e1 e2
    subst e1 e2
    obtain ⟨cs, e, h2⟩ := hr
    exact ⟨cs, e, h2⟩
  clear h
  go_enter Try.func14, Try.ntmps14
  go_wp2_with fail
  refine wp_region_held_drew (S := fun W => W.cell? ⟨g, 300, none⟩ = some (.int .i64 (l.length : Int))) (by kernel_rfl) hc (fun hHeld => ?_)
  refine held_take 0 3 (v := ?v1) rfl rfl (by kernel_rfl) (by kernel_rfl) (by kernel_rfl) (fun _ _ _ h => h) hHeld (Or.inl ⟨by rfl, ?y1⟩) ?r1
  case y1 => intro w hSw; (try dsimp only at hSw); go_simp; (try with_reducible rfl)
  simp only [List.setIfInBounds_toArray, List.set_cons_zero, List.set_cons_succ]
  refine held_take 1 4 (v := ?v2) rfl rfl (by kernel_rfl) (by kernel_rfl) (by kernel_rfl) (fun _ _ _ h => h) hHeld (Or.inl ⟨by rfl, ?y2⟩) ?r2
  case y2 => intro w hSw; (try dsimp only at hSw); go_simp; (try with_reducible rfl)
  simp only [List.setIfInBounds_toArray, List.set_cons_zero, List.set_cons_succ]
  refine held_take 2 5 (v := ?v3) rfl rfl (by kernel_rfl) (by kernel_rfl) (by kernel_rfl) (fun _ _ _ h => h) hHeld (Or.inl ⟨by rfl, ?y3⟩) ?r3
  case y3 => intro w hSw; (try dsimp only at hSw); go_simp; (try with_reducible rfl)
  simp only [List.setIfInBounds_toArray, List.set_cons_zero, List.set_cons_succ]
  refine held_take 3 6 (v := ?v4) rfl rfl (by kernel_rfl) (by kernel_rfl) (by kernel_rfl) (fun _ _ _ h => h) hHeld (Or.inl ⟨by rfl, ?y4⟩) ?r4
  case y4 => intro w hSw; (try dsimp only at hSw); go_simp; (try with_reducible rfl)
  simp only [List.setIfInBounds_toArray, List.set_cons_zero, List.set_cons_succ]
  refine held_take 4 7 (v := ?v5) rfl rfl (by kernel_rfl) (by kernel_rfl) (by kernel_rfl) (fun _ _ _ h => h) hHeld (Or.inl ⟨by rfl, ?y5⟩) ?r5
  case y5 => intro w hSw; (try dsimp only at hSw); go_simp; (try with_reducible rfl)
  simp only [List.setIfInBounds_toArray, List.set_cons_zero, List.set_cons_succ]
  refine held_take 5 8 (v := ?v6) rfl rfl (by kernel_rfl) (by kernel_rfl) (by kernel_rfl) (fun _ _ _ h => h) hHeld (Or.inl ⟨by rfl, ?y6⟩) ?r6
  case y6 => intro w hSw; (try dsimp only at hSw); go_simp; (try with_reducible rfl)
  simp only [List.setIfInBounds_toArray, List.set_cons_zero, List.set_cons_succ]
  refine held_take 6 9 (v := ?v7) rfl rfl (by kernel_rfl) (by kernel_rfl) (by kernel_rfl) (fun _ _ _ h => h) hHeld (Or.inl ⟨by rfl, ?y7⟩) ?r7
  case y7 => intro w hSw; (try dsimp only at hSw); go_simp; (try with_reducible rfl)
  simp only [List.setIfInBounds_toArray, List.set_cons_zero, List.set_cons_succ]
  refine held_take 7 10 (v := ?v8) rfl rfl (by kernel_rfl) (by kernel_rfl) (by kernel_rfl) (fun _ _ _ h => h) hHeld (Or.inl ⟨by rfl, ?y8⟩) ?r8
  case y8 => intro w hSw; (try dsimp only at hSw); go_simp; (try with_reducible rfl)
  simp only [List.setIfInBounds_toArray, List.set_cons_zero, List.set_cons_succ]
  refine wpAnyH_ready (rs := [8]) (by kernel_rfl) (by simp) ?_
  refine AllReadyH.cons (o := ⟨some 11, _, _, _, _, _⟩) rfl (fun K hK => ?_) AllReadyH.nil
  rw [if_pos (by rfl)]
  refine wp_append_rows (R := pidRep) (S := noPB) (.const (.slice none 0 0)) (.tmp 10) 41 25 rfl Try.underlying41 (.agg #[.int .i64 0, .int .i64 0, .int .i64 0]) row_info rfl w.heap.size (.slice none 0 0) [] rfl OwnP.nil g 0 l.length 100 l rfl rfl HR.out (by simp; omega) HB0.out.size ?_
  intro v2 w2 hown2 hb2 hg2 _
  rw [List.nil_append] at hown2
  have HO2 := Lib.hid hown2
  have HB2 := Lib.hid (HB0.out.trans hb2)
  refine hK.out _ _ ((hb2.cell (p := ⟨g, 300, none⟩) hg).trans hc) (fun hHeld => ?_)
  clear hK K hown2 hb2 hg2
  (try simp only [Act.put, List.setIfInBounds_toArray, List.set_cons_zero, List.set_cons_succ])
  refine held_take 9 2 (v := ?v9) rfl rfl (by kernel_rfl) (by kernel_rfl) (by kernel_rfl) (fun _ _ _ h => h) hHeld (Or.inl ⟨by rfl, ?y9⟩) ?r9
  case y9 => intro w hSw; (try dsimp only at hSw); go_simp; (try with_reducible rfl)
  simp only [List.setIfInBounds_toArray, List.set_cons_zero, List.set_cons_succ]
  refine wpAnyH_done (by kernel_rfl) ?_ _
  clear hHeld
  go_wp2
  go_ret
  exact ⟨v2, rfl, HO2.out, HB2.out⟩
/-- What a call leaves that wrote the table's block alone. -/
theorem pleft_of {base g : Nat} {S : Nat → Prop} {w W : World} {l l' : List PidM} (h : PTab base S w g l) (hk : Keep S w W) {cs : Array Value} (hg : W.heap[g]? = some (.cells cs 28)) (hc : TabCells l' cs) (ht : TabM l') : PLeft base S w W g l' :=
  ⟨S, fun _ h => .inl h, hk, h.within.more hk.size, h.at_, ht, cs, hg, hc⟩
theorem Keep.setRow {S : Nat → Prop} {w w' : World} (h : Keep S w w') {g : Nat} (hg : S g) (cs : Array Value) : Keep S w (w'.setRow g cs) :=
  ⟨h.os, h.tape, h.output, by simpa [World.setRow] using h.size, fun i hi hn => (setRow_other w' g i cs (by rintro rfl; exact hn hg)).trans (h.block i hi hn)⟩
theorem heap_rowC {w : World} {g k : Nat} {cs : Array Value} {t : TypeId} (hg : w.heap[g]? = some (.cells cs t)) (x : PidM) :
    (((w.setCell ⟨g, k * 3, none⟩ (.int .i64 x.pid)).setCell ⟨g, k * 3 + 1, none⟩ (.int .i64 x.seq)).setCell ⟨g, k * 3 + 2, none⟩ (.int .i64 x.off)).heap[g]? = some (.cells (rowC cs k x) t) :=
  heap_setCell_same _ _ _ _ _ _ (heap_setCell_same _ _ _ _ _ _ (heap_setCell_same _ _ _ _ _ _ hg))
/-- The cells of a row, in a world where the table's block is that. -/
theorem tab_cells {w : World} {g k : Nat} {cs : Array Value} (hg : w.heap[g]? = some (.cells cs 28)) (hz : cs.size = 301) (hk : k < 100) :
    ∃ u0 u1 u2, w.cell? ⟨g, k * 3, none⟩ = some u0 ∧ w.cell? ⟨g, k * 3 + 1, none⟩ = some u1 ∧ w.cell? ⟨g, k * 3 + 2, none⟩ = some u2 := by
  have hc : ∀ j : Nat, w.cell? ⟨g, j, none⟩ = cs[j]? := fun j => by unfold World.cell?; rw [hg]; rfl
  exact ⟨cs[k * 3]'(by omega), cs[k * 3 + 1]'(by omega), cs[k * 3 + 2]'(by omega), (hc _).trans (Array.getElem?_eq_getElem _), (hc _).trans (Array.getElem?_eq_getElem _), (hc _).trans (Array.getElem?_eq_getElem _)⟩
theorem tab_thaw {w : World} {g j : Nat} {cs : Array Value} (hg : w.heap[g]? = some (.cells cs 28)) : w.frozen? ⟨g, j, none⟩ = false := by simp [World.frozen?, hg]
set_option maxHeartbeats 3200000 in
theorem pset_any {base g : Nat} {S : Nat → Prop} {w : World} {l : List PidM} (h : PTab base S w g l) (x : PidM) (hx : x.wf) :
    Calls Try.prog 8 #[.pointer (some ⟨g, 0, none⟩), .int .i64 x.pid, .int .i64 x.seq, .int .i64 x.off] w (fun e w' => e = .returned (.int .i64 (setP l x).2) ∧ PLeft base S w w' g (setP l x).1) := by
  have HF := Lib.hid (pfind_any h x.pid)
  have HT := Lib.hid h
  have HTS := Lib.hid (h.tab.set hx)
  have hfew := h.tab.few
  obtain ⟨xp, xs, xo⟩ := x
  clear h hx
  dsimp only at HF ⊢
  go_enter Try.func8, Try.ntmps8
  go_wp2_with fail
  refine HF.out.mono ?_
  rintro e w2 ⟨k, hk, rfl, hb⟩
  have HB := Lib.hid hb
  have HT2 : Hid (PTab base S w2 g l) := Lib.hid (HT.out.keep (U := Nobody) (Keep.of_below hb) fun _ _ h => h)
  have HK := Lib.hid hk
  clear hb hk HF
  by_cases hq : ∃ h : k < l.length, l[k].pid = xp
  · obtain ⟨hkl, hkp⟩ := hq
    have dq : decide (∃ h : k < l.length, l[k].pid = xp) = true := decide_eq_true ⟨hkl, hkp⟩
    have HS : Hid (setP l ⟨xp, xs, xo⟩ = (l.take k ++ ⟨xp, xs, xo⟩ :: l.drop (k + 1), 0)) := Lib.hid (by
      unfold setP
      rw [if_neg (by rw [has_over hkl hkp]; simp), put_over HK.out.1 hkl hkp])
    generalize decide (∃ h : k < l.length, l[k].pid = xp) = dd at *
    subst dq
    obtain ⟨_, _, _, cs, hg2, hcs⟩ := id HT2.out
    have HG := Lib.hid hg2
    have HC := Lib.hid (hcs.over ⟨xp, xs, xo⟩ hkl hfew)
    obtain ⟨u0, u1, u2, c0, c1, c2⟩ := tab_cells (k := k) hg2 hcs.size (by omega)
    have f0 : w2.frozen? ⟨g, k * 3, none⟩ = false := tab_thaw hg2
    have f1 : w2.frozen? ⟨g, k * 3 + 1, none⟩ = false := tab_thaw hg2
    have f2 : w2.frozen? ⟨g, k * 3 + 2, none⟩ = false := tab_thaw hg2
    have hk1 : (k : Int) < 100 := by omega
    have hk2 : k < 100 := by omega
    clear hg2 hcs hkp HK HT2
    go_wp2_with fail
    go_ret
    have hT := HTS.out
    rw [HS.out] at hT ⊢
    exact ⟨rfl, pleft_of HT.out ((((Keep.of_below HB.out).setCell (p := ⟨g, k * 3, none⟩) (.inl HT.out.at_) _).setCell (p := ⟨g, k * 3 + 1, none⟩) (.inl HT.out.at_) _).setCell (p := ⟨g, k * 3 + 2, none⟩) (.inl HT.out.at_) _) (heap_rowC HG.out ⟨xp, xs, xo⟩) HC.out hT⟩
  · have dq : decide (∃ h : k < l.length, l[k].pid = xp) = false := decide_eq_false hq
    have HBT := Lib.hid (HK.out.between hq)
    have HN := Lib.hid (has_between HT2.out.tab.sorted HK.out.1 HBT.out)
    generalize decide (∃ h : k < l.length, l[k].pid = xp) = dd at *
    subst dq
    clear hq
    have hc := HT2.out.count
    have hgl := cell_block_lt hc
    by_cases h100 : l.length = 100
    · have b1 : ((l.length : Int) == 100) = true := by simp; omega
      have HS : Hid (setP l ⟨xp, xs, xo⟩ = (l, 7)) := Lib.hid (if_pos ⟨HN.out, by omega⟩)
      have b2 : (l.length == 100) = true := by simpa using h100
      clear HBT HN HK h100 hfew
      go_wp2_with fail
      go_ret
      rw [HS.out]
      exact ⟨rfl, S, fun _ h => .inl h, Keep.of_below HB.out, HT2.out⟩
    · have b1 : ((l.length : Int) == 100) = false := by simp; omega
      have b2 : (l.length == 100) = false := by simpa using h100
      have HS : Hid (setP l ⟨xp, xs, xo⟩ = (l.take k ++ ⟨xp, xs, xo⟩ :: l.drop k, 0)) := Lib.hid (by
        unfold setP
        rw [if_neg fun h => h100 (Nat.le_antisymm hfew h.2), put_between HK.out.1 HBT.out])
      have hkl : k ≤ l.length := HK.out.1.1
      obtain ⟨_, _, _, cs, hg2, hcs⟩ := id HT2.out
      have hn : l.length < 100 := by omega
      have hs1 := fun (W : World) => slice_tab_l g (k + 1) W (by omega)
      rw [show ((k + 1 : Nat) : Int) = (k : Int) + 1 by omega] at hs1
      have hw : IntKind.i64.wrap ((k : Int) + 1) = (k : Int) + 1 := (IntWalk.i64_left _).trans (by simp only [wrap64]; omega)
      have hs2 := fun (W : World) => slice_tab_lh g k l.length W hkl hfew
      have HCP := Lib.hid (run_copy_tab w2.drew g k l.length 3 cs hcs.size hcs.one hg2 hkl hn)
      rw [show 100 - (k + 1) = 99 - k by omega] at HCP
      have HG3 : Hid ((w2.drew.setRow g (movedC cs k l.length)).heap[g]? = some (.cells (movedC cs k l.length) 28)) := Lib.hid (setRow_heap w2.drew g cs _ _ _ hg2)
      have hc3 : (w2.drew.setRow g (movedC cs k l.length)).cell? ⟨g, 300, none⟩ = some (.int .i64 (l.length : Int)) := by
        unfold World.cell?
        rw [HG3.out]
        show (movedC cs k l.length)[300]? = _
        rw [movedC_at hcs.size hkl hn, if_neg (by omega), if_neg (by omega)]
        exact hcs.count
      have HCS := Lib.hid hcs
      have HKP : Hid (Keep S w (w2.drew.setRow g (movedC cs k l.length))) := Lib.hid ((Keep.of_below HB.out).drew.setRow HT.out.at_ _)
      clear hg2 hcs HBT HN HK HT2 h100
      go_wp2_with fail
      refine wp_region_held_drew (S := fun W => W.cell? ⟨g, 300, none⟩ = some (.int .i64 (l.length : Int))) (by kernel_rfl) hc (fun hHeld => ?_)
      refine held_take 0 24 (v := ?v100) rfl rfl (by kernel_rfl) (by kernel_rfl) (by kernel_rfl) (fun _ _ _ h => h) hHeld (Or.inl ⟨by rfl, ?y100⟩) ?r100
      case y100 => intro w hSw; (try dsimp only at hSw); go_simp; (try with_reducible rfl)
      simp only [List.setIfInBounds_toArray, List.set_cons_zero, List.set_cons_succ]
      refine held_take 1 25 (v := ?v101) rfl rfl (by kernel_rfl) (by kernel_rfl) (by kernel_rfl) (fun _ _ _ h => h) hHeld (Or.inl ⟨by rfl, ?y101⟩) ?r101
      case y101 => intro w hSw; (try dsimp only at hSw); go_simp; (try with_reducible rfl)
      simp only [List.setIfInBounds_toArray, List.set_cons_zero, List.set_cons_succ]
      refine held_take 2 26 (v := ?v102) rfl rfl (by kernel_rfl) (by kernel_rfl) (by kernel_rfl) (fun _ _ _ h => h) hHeld (Or.inl ⟨by rfl, ?y102⟩) ?r102
      case y102 => intro w hSw; (try dsimp only at hSw); go_simp; (try with_reducible rfl)
      simp only [List.setIfInBounds_toArray, List.set_cons_zero, List.set_cons_succ]
      refine held_take 3 27 (v := ?v103) rfl rfl (by kernel_rfl) (by kernel_rfl) (by kernel_rfl) (fun _ _ _ h => h) hHeld (Or.inl ⟨by rfl, ?y103⟩) ?r103
      case y103 => intro w hSw; (try dsimp only at hSw); go_simp; (try with_reducible rfl)
      simp only [List.setIfInBounds_toArray, List.set_cons_zero, List.set_cons_succ]
      refine held_take 4 28 (v := ?v104) rfl rfl (by kernel_rfl) (by kernel_rfl) (by kernel_rfl) (fun _ _ _ h => h) hHeld (Or.inl ⟨by rfl, ?y104⟩) ?r104
      case y104 => intro w hSw; (try dsimp only at hSw); go_simp; (try with_reducible rfl)
      simp only [List.setIfInBounds_toArray, List.set_cons_zero, List.set_cons_succ]
      refine held_take 5 29 (v := ?v105) rfl rfl (by kernel_rfl) (by kernel_rfl) (by kernel_rfl) (fun _ _ _ h => h) hHeld (Or.inl ⟨by rfl, ?y105⟩) ?r105
      case y105 => intro w hSw; (try dsimp only at hSw); go_simp; (try with_reducible rfl)
      simp only [List.setIfInBounds_toArray, List.set_cons_zero, List.set_cons_succ]
      refine held_take 6 30 (v := ?v106) rfl rfl (by kernel_rfl) (by kernel_rfl) (by kernel_rfl) (fun _ _ _ h => h) hHeld (Or.inl ⟨by rfl, ?y106⟩) ?r106
      case y106 => intro w hSw; (try dsimp only at hSw); go_simp; (try with_reducible rfl)
      simp only [List.setIfInBounds_toArray, List.set_cons_zero, List.set_cons_succ]
      refine held_take 7 31 (v := ?v107) rfl rfl (by kernel_rfl) (by kernel_rfl) (by kernel_rfl) (fun _ _ _ h => h) hHeld (Or.inl ⟨by rfl, ?y107⟩) ?r107
      case y107 => intro w hSw; (try dsimp only at hSw); go_simp; (try with_reducible rfl)
      simp only [List.setIfInBounds_toArray, List.set_cons_zero, List.set_cons_succ]
      refine held_take 8 32 (v := ?v108) rfl rfl (by kernel_rfl) (by kernel_rfl) (by kernel_rfl) (fun _ _ _ h => h) hHeld (Or.inl ⟨by rfl, ?y108⟩) ?r108
      case y108 => intro w hSw; (try dsimp only at hSw); go_simp; (try with_reducible rfl)
      simp only [List.setIfInBounds_toArray, List.set_cons_zero, List.set_cons_succ]
      refine held_take 9 33 (v := ?v109) rfl rfl (by kernel_rfl) (by kernel_rfl) (by kernel_rfl) (fun _ _ _ h => h) hHeld (Or.inl ⟨by rfl, ?y109⟩) ?r109
      case y109 => intro w hSw; (try dsimp only at hSw); go_simp; (try with_reducible rfl)
      simp only [List.setIfInBounds_toArray, List.set_cons_zero, List.set_cons_succ]
      refine held_take 10 34 (v := ?v110) rfl rfl (by kernel_rfl) (by kernel_rfl) (by kernel_rfl) (fun _ _ _ h => h) hHeld (Or.inl ⟨by rfl, ?y110⟩) ?r110
      case y110 => intro w hSw; (try dsimp only at hSw); go_simp; (try with_reducible rfl)
      simp only [List.setIfInBounds_toArray, List.set_cons_zero, List.set_cons_succ]
      refine held_take 11 35 (v := ?v111) rfl rfl (by kernel_rfl) (by kernel_rfl) (by kernel_rfl) (fun _ _ _ h => h) hHeld (Or.inl ⟨by rfl, ?y111⟩) ?r111
      case y111 => intro w hSw; (try dsimp only at hSw); go_simp; (try with_reducible rfl)
      simp only [List.setIfInBounds_toArray, List.set_cons_zero, List.set_cons_succ]
      refine held_take 12 36 (v := ?v112) rfl rfl (by kernel_rfl) (by kernel_rfl) (by kernel_rfl) (fun _ _ _ h => h) hHeld (Or.inl ⟨by rfl, ?y112⟩) ?r112
      case y112 => intro w hSw; (try dsimp only at hSw); go_simp; (try with_reducible rfl)
      simp only [List.setIfInBounds_toArray, List.set_cons_zero, List.set_cons_succ]
      refine held_take 13 37 (v := ?v113) rfl rfl (by kernel_rfl) (by kernel_rfl) (by kernel_rfl) (fun _ _ _ h => h) hHeld (Or.inl ⟨by rfl, ?y113⟩) ?r113
      case y113 => intro w hSw; (try dsimp only at hSw); go_simp; (try with_reducible rfl)
      simp only [List.setIfInBounds_toArray, List.set_cons_zero, List.set_cons_succ]
      refine held_take 14 38 (v := ?v114) rfl rfl (by kernel_rfl) (by kernel_rfl) (by kernel_rfl) (fun _ _ _ h => h) hHeld (Or.inl ⟨by rfl, ?y114⟩) ?r114
      case y114 => intro w hSw; (try dsimp only at hSw); go_simp; (try with_reducible rfl)
      simp only [List.setIfInBounds_toArray, List.set_cons_zero, List.set_cons_succ]
      refine wpAnyH_ready (rs := [15]) (by kernel_rfl) (by simp) ?_
      refine AllReadyH.cons (o := ⟨some 39, _, _, _, _, _⟩) rfl (fun K hK => ?_) AllReadyH.nil
      rw [if_pos (by rfl)]
      refine wp_copy_tab (.tmp 29) (.tmp 38) rfl g k l.length rfl rfl _ HCP.out ?_
      refine hK.out _ _ hc3 (fun hHeld => ?_)
      clear hK K
      (try simp only [Act.put, List.setIfInBounds_toArray, List.set_cons_zero, List.set_cons_succ])
      refine wpAnyH_done (by kernel_rfl) ?_ _
      clear hHeld HCP hc hgl hw hs1 hs2
      have HCB := Lib.hid (HCS.out.between ⟨xp, xs, xo⟩ hkl hn)
      have hms := movedC_size HCS.out.size hkl hn
      generalize movedC cs k l.length = C1 at *
      generalize w2.drew.setRow g C1 = w3 at *
      have f3 : w3.frozen? ⟨g, 300, none⟩ = false := tab_thaw HG3.out
      have hw2 : wrap64 ((l.length : Int) + 1) = (l.length : Int) + 1 := by simp only [wrap64]; omega
      go_upto_region 7 with fail
      have HG4 : Hid ((w3.setCell ⟨g, 300, none⟩ (.int .i64 ((l.length : Int) + 1))).heap[g]? = some (.cells (C1.setIfInBounds 300 (.int .i64 ((l.length : Int) + 1))) 28)) := Lib.hid (heap_setCell_same _ _ _ _ _ _ HG3.out)
      have HK4 := Lib.hid (HKP.out.setCell (p := ⟨g, 300, none⟩) (.inl HT.out.at_) (.int .i64 ((l.length : Int) + 1)))
      have hz4 : (C1.setIfInBounds 300 (.int .i64 ((l.length : Int) + 1))).size = 301 := by rw [Array.size_setIfInBounds, hms]
      generalize w3.setCell ⟨g, 300, none⟩ (.int .i64 ((l.length : Int) + 1)) = w4 at *
      generalize C1.setIfInBounds 300 (.int .i64 ((l.length : Int) + 1)) = C4 at *
      obtain ⟨u0, u1, u2, c0, c1, c2⟩ := tab_cells (k := k) HG4.out hz4 (by omega)
      have f0 : w4.frozen? ⟨g, k * 3, none⟩ = false := tab_thaw HG4.out
      have f1 : w4.frozen? ⟨g, k * 3 + 1, none⟩ = false := tab_thaw HG4.out
      have f2 : w4.frozen? ⟨g, k * 3 + 2, none⟩ = false := tab_thaw HG4.out
      have hk1 : (k : Int) < 100 := by omega
      have hk2 : k < 100 := by omega
      clear hc3 f3 hw2 hms hz4 hkl hn
      go_wp2_with fail
      go_ret
      have hT := HTS.out
      rw [HS.out] at hT ⊢
      exact ⟨rfl, pleft_of HT.out (((HK4.out.setCell (p := ⟨g, k * 3, none⟩) (.inl HT.out.at_) _).setCell (p := ⟨g, k * 3 + 1, none⟩) (.inl HT.out.at_) _).setCell (p := ⟨g, k * 3 + 2, none⟩) (.inl HT.out.at_) _) (heap_rowC HG4.out ⟨xp, xs, xo⟩) HCB.out hT⟩
end Go.Proofs.Ytgjgbelloobdfaa
