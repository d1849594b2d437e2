/- A contract of the program's own Read of commands. -/
import Derived.Test.YtiglignfjegilaaDoorVTake
import Derived.Test.YtiglignfjegilaaDoorVCmdBytes
import Derived.Test.YtiglignfjegilaaDoorCmdReadNum
namespace Go.Proofs.YtiglignfjegilaaDoor
open Go.RowKit

/-- A world in which a command was stored into block g, cell by cell. -/
def setAll (w : World) (g : Nat) (v : Value) (c : Cmd) : World := (((((((((((((w.setCell ⟨g, 0, none⟩ (.int .i64 c.kind)).setCell ⟨g, 1, none⟩ (.int .i64 c.pid)).setCell ⟨g, 2, none⟩ (.int .i64 c.seq)).setCell ⟨g, 3, none⟩ (v)).setCell ⟨g, 4, none⟩ (.string c.group)).setCell ⟨g, 5, none⟩ (.int .i64 c.off)).setCell ⟨g, 6, none⟩ (.int .i64 c.max)).setCell ⟨g, 7, none⟩ (.int .i64 c.now)).setCell ⟨g, 8, none⟩ (.int .u32 c.sum)).setCell ⟨g, 9, none⟩ (.int .i64 c.seg)).setCell ⟨g, 10, none⟩ (.int .i64 c.keep)).setCell ⟨g, 11, none⟩ (.int .i64 c.age)).setCell ⟨g, 12, none⟩ (.int .i64 c.grace))
theorem setAll_heap {w : World} {g : Nat} {v0 : Value} {c0 : Cmd} (h : w.heap[g]? = some (cmdO v0 c0)) (v : Value) (c : Cmd) : (setAll w g v c).heap[g]? = some (cmdO v c) := by
  unfold setAll
  have h0 := heap_setCell_same w g 0 _ _ (.int .i64 c.kind) h
  have h1 := heap_setCell_same _ g 1 _ _ (.int .i64 c.pid) h0
  have h2 := heap_setCell_same _ g 2 _ _ (.int .i64 c.seq) h1
  have h3 := heap_setCell_same _ g 3 _ _ (v) h2
  have h4 := heap_setCell_same _ g 4 _ _ (.string c.group) h3
  have h5 := heap_setCell_same _ g 5 _ _ (.int .i64 c.off) h4
  have h6 := heap_setCell_same _ g 6 _ _ (.int .i64 c.max) h5
  have h7 := heap_setCell_same _ g 7 _ _ (.int .i64 c.now) h6
  have h8 := heap_setCell_same _ g 8 _ _ (.int .u32 c.sum) h7
  have h9 := heap_setCell_same _ g 9 _ _ (.int .i64 c.seg) h8
  have h10 := heap_setCell_same _ g 10 _ _ (.int .i64 c.keep) h9
  have h11 := heap_setCell_same _ g 11 _ _ (.int .i64 c.age) h10
  have h12 := heap_setCell_same _ g 12 _ _ (.int .i64 c.grace) h11
  simp only [List.setIfInBounds_toArray, List.set_cons_zero, List.set_cons_succ] at h12
  exact h12
theorem setAll_grown (w : World) (g : Nat) (v : Value) (c : Cmd) : w.grownBy (setAll w g v c) (some g) := by
  unfold setAll
  exact (grown_trans ((grown_trans ((grown_trans ((grown_trans ((grown_trans ((grown_trans ((grown_trans ((grown_trans ((grown_trans ((grown_trans ((grown_trans ((grown_trans (grown_set w g 0 _) (grown_set _ g 1 _))) (grown_set _ g 2 _))) (grown_set _ g 3 _))) (grown_set _ g 4 _))) (grown_set _ g 5 _))) (grown_set _ g 6 _))) (grown_set _ g 7 _))) (grown_set _ g 8 _))) (grown_set _ g 9 _))) (grown_set _ g 10 _))) (grown_set _ g 11 _))) (grown_set _ g 12 _))
/-- That all cells of a command's block may be written. -/
theorem cmd_free {w : World} {g : Nat} {v : Value} {c : Cmd} (h : w.heap[g]? = some (cmdO v c)) (j : Nat) : w.frozen? ⟨g, j, none⟩ = false := frozen_of_row _ g j _ _ h
theorem AsideG.below {X g B : Nat} {w w' : World} (h : AsideG X g w w') (h1 : B ≤ X) (h2 : B ≤ g) : Below B w w' := ⟨h.os, h.tape, h.output, h.size, fun k hk => h.block k (Nat.lt_of_lt_of_le hk h1) (Nat.ne_of_lt (Nat.lt_of_lt_of_le hk h2))⟩
theorem ownr_lower {w : World} {a b : Nat} {v : Value} {rs : List Rec} (h : OwnR w a v rs) (hb : b ≤ a) : OwnR w b v rs := by
  rcases h with ⟨h1, ⟨e1, e2⟩ | ⟨g, cap, cur, e1, e2, e3⟩⟩
  · exact ⟨h1, .inl ⟨e1, e2⟩⟩
  · exact ⟨h1, .inr ⟨g, cap, cur, e1, Nat.le_trans hb e2, e3⟩⟩
theorem AsideG.grown {g : Nat} {w w' : World} (h : AsideG w.heap.size g w w') : w.grownBy w' (some g) := ⟨h.os, h.tape, h.output, h.size, fun k hk hn => h.block k hk fun e => hn (by rw [e])⟩
set_option maxRecDepth 8000 in
set_option maxHeartbeats 4000000 in
theorem vcread_any (A : Option Addr) (xs : List Int) (cap : Nat) (w : World) (hT : Tabs w) (hl : Lies .u8 w w.heap.size A xs) (hby : IsBytes xs) (hc : xs.length ≤ cap) (hcm : cap ≤ maxLen) (_ : A = none → cap = 0) (hxl : xs.length ≤ 549755813888) :
    Calls Tryd.prog 12 #[.slice A xs.length cap] w (TellsCmd (cmdR xs) w) := by
  have ha0 := (Below.refl w.heap.size w).alloc (Nat.le_refl _) (cmdO (.slice none 0 0) zeroCmd)
  have hb0 := ha0.alloc (by simp) (cmdO (.slice none 0 0) zeroCmd)
  have hs0 : ((w.alloc (cmdO (.slice none 0 0) zeroCmd)).alloc (cmdO (.slice none 0 0) zeroCmd)).heap.size = w.heap.size + 2 := by simp
  have hg0 : ((w.alloc (cmdO (.slice none 0 0) zeroCmd)).alloc (cmdO (.slice none 0 0) zeroCmd)).heap[w.heap.size + 1]? = some (cmdO (.slice none 0 0) zeroCmd) := by
    have := cmd_new (w.alloc (cmdO (.slice none 0 0) zeroCmd)) (.slice none 0 0) zeroCmd
    simpa using this
  have hr0 : ((w.alloc (cmdO (.slice none 0 0) zeroCmd)).alloc (cmdO (.slice none 0 0) zeroCmd)).heap[w.heap.size]? = some (cmdO (.slice none 0 0) zeroCmd) :=
    (Below.heap_alloc _ _ _ (by simp)).trans (cmd_new w (.slice none 0 0) zeroCmd)
  obtain ⟨W0, hW0⟩ : ∃ W0, (w.alloc (cmdO (.slice none 0 0) zeroCmd)).alloc (cmdO (.slice none 0 0) zeroCmd) = W0 := ⟨_, rfl⟩
  rw [hW0] at hb0 hs0 hg0 hr0
  unfold cmdO zeroCmd at hW0
  dsimp only at hW0
  have HW0 := Lib.hid hW0
  have HB0 := Lib.hid hb0
  have HS0 := Lib.hid hs0
  have HG0 := Lib.hid hg0
  have HR0 := Lib.hid hr0
  have HTK := Lib.hid (take_any W0 w.heap.size (w.heap.size + 2) (w.heap.size + 1) (Nat.le_succ _) (Nat.lt_succ_self _) (Nat.le_of_eq hs0.symm) (.slice none 0 0) zeroCmd hg0 OwnR.nil (by simp [zeroCmd]) A xs cap (hl.below hb0) hby hc hcm (.num 0 0 0) kind_good)
  have HT := Lib.hid hT
  have HBY := Lib.hid hby
  have HXL := Lib.hid hxl
  have hon := cmdR_on xs
  obtain ⟨O, hO⟩ : ∃ O, cmdR xs = O := ⟨_, rfl⟩
  rw [hO]
  rw [hO] at hon
  have HON := Lib.hid hon
  clear hW0 ha0 hb0 hs0 hg0 hr0 hT hl hby hxl hon hO
  go_enter Tryd.func12, Tryd.ntmps12
  go_upto_region 2 with fail
  rw [HW0.out]
  generalize hg : w.heap.size + 1 = g at *
  have HGG : Hid (w.heap.size < g ∧ g < w.heap.size + 2) := Lib.hid (by omega)
  clear hg HW0
  go_wp2_with fail
  refine (kind_any _ _).mono ?_
  rintro e W1 ⟨rfl, hw⟩
  rw [hw]
  clear hw W1
  go_wp2_with fail
  refine HTK.out.mono ?_
  clear HTK
  rintro e W1 ⟨ha, ⟨ho, rfl, v1, c1, h1, hk1⟩ | ⟨c1, ys, A1, cap1, v1, ho, rfl, hl1, q1, q2, q3, h1, hw1, hv1⟩⟩
  · have HN : Hid (O = none) := Lib.hid (by rw [HON.out, ho]; rfl)
    have HF : Hid (Calls Tryd.prog 16 #[.pointer (some ⟨g, 0, none⟩)] W1 (fun e w' => ∃ A, e = .returned (.tuple #[.slice A 0 0, .bool true]) ∧ Below W1.heap.size W1 w')) := Lib.hid ((fields_any W1 g v1 c1 h1).mono fun e w' h => by
      unfold TellsFields at h
      rw [hk1] at h
      obtain ⟨A, h1, h2, _⟩ := h
      exact ⟨A, h1, h2⟩)
    have HA := Lib.hid ha
    have hz1 : W1.heap[w.heap.size]? = some (cmdO (.slice none 0 0) zeroCmd) := (ha.block _ (by omega) (Nat.ne_of_lt HGG.out.1)).trans HR0.out
    have HZ1 := Lib.hid hz1
    clear ha ho h1 hk1 hz1 HON
    go_wp2_with fail
    refine HF.out.mono ?_
    rintro e W2 ⟨A2, rfl, hb2⟩
    have hz2 := block_keep HZ1.out hb2
    have HB2 := Lib.hid (HB0.out.trans ((HA.out.below (Nat.le_add_right _ _) (Nat.le_of_lt HGG.out.1)).trans (hb2.mono (Nat.le_trans HB0.out.size HA.out.size)) |>.mono (Nat.le_refl _)))
    have HZ2 := Lib.hid hz2
    obtain ⟨r0, r1, r2, r3, r4, r5, r6, r7, r8, r9, r10, r11, r12⟩ := cmd_at hz2
    have fz := cmd_free hz2
    have z0 := fz 0
    have z1 := fz 1
    have z2 := fz 2
    have z3 := fz 3
    have z4 := fz 4
    have z5 := fz 5
    have z6 := fz 6
    have z7 := fz 7
    have z8 := fz 8
    have z9 := fz 9
    have z10 := fz 10
    have z11 := fz 11
    have z12 := fz 12
    clear fz
    clear hb2 hz2 HF
    go_wp2_with fail
    go_loopw [5, 6, 24] (fun bv kv iv wr => bv = .slice none 0 0 ∧ kv = .bool false ∧ iv = .int .i64 0 ∧ wr = W2) (fun _ _ _ _ => 0)
    case atStart => exact ⟨rfl, rfl, rfl, rfl⟩
    case round =>
      obtain ⟨rfl, rfl, rfl, hwr⟩ := hrel
      have hwr' := hwr.symm
      clear hwr
      subst hwr'
      go_wp2_with fail
      (try simp only [Exit.inBlock, Exit.then])
      obtain ⟨k0, k1, k2, k3, k4, k5, k6, k7, k8, k9, k10, k11, k12⟩ := cmd_at (setAll_heap HZ2.out (.slice none 0 0) zeroCmd)
      change bodyPost _ _ _ _ _ (setAll W2 w.heap.size (.slice none 0 0) zeroCmd)
      have HSA := Lib.hid (setAll_grown W2 w.heap.size (.slice none 0 0) zeroCmd)
      generalize setAll W2 w.heap.size (.slice none 0 0) zeroCmd = WF at *
      refine bodyPost_ret (by simp [results, Tryd.results12, go_sem, k0, k1, k2, k3, k4, k5, k6, k7, k8, k9, k10, k11, k12]; try rfl) rfl ?_
      exact ⟨grow_below HB2.out HSA.out (Nat.le_refl _), .inl ⟨HN.out, rfl⟩⟩
  · have hv1' : v1 = .slice none 0 0 := by
      rcases hv1 with h | h
      · cases h
      · exact h
    subst hv1'
    have hrc := takeF_kind ho
    obtain ⟨hwf1, hby1, hly1, _⟩ := takeF_wf zeroCmd_wf HBY.out HXL.out ho
    have hst : O = readOn (fieldsK c1.kind) c1 ys := by rw [HON.out, ho]; rfl
    have hF := fields_any W1 g (.slice none 0 0) c1 h1
    have hgd := fieldsK_good c1.kind
    have hfl := fieldsK_length c1.kind
    have hA := Lib.hid ha
    have hz1 : W1.heap[w.heap.size]? = some (cmdO (.slice none 0 0) zeroCmd) := (ha.block _ (by omega) (Nat.ne_of_lt HGG.out.1)).trans HR0.out
    have hbW1 : Below w.heap.size w W1 := HB0.out.trans (ha.below (Nat.le_add_right _ _) (Nat.le_of_lt HGG.out.1))
    have hgW1 : g < W1.heap.size := (Array.getElem?_eq_some_iff.1 h1).1
    have HZ1 := Lib.hid hz1
    have HB1 := Lib.hid hbW1
    have HGW := Lib.hid hgW1
    have HH1 := Lib.hid h1
    have HL1 := Lib.hid hl1
    have HBY1 := Lib.hid hby1
    have HWF1 := Lib.hid hwf1
    have HXY : Hid (ys.length ≤ 549755813888) := Lib.hid (Nat.le_trans hly1 HXL.out)
    have HRC := Lib.hid hrc
    have HQ := Lib.hid (And.intro q1 (And.intro q2 q3))
    unfold TellsFields at hF
    obtain ⟨fs, hfs⟩ : ∃ fs, fieldsK c1.kind = fs := ⟨_, rfl⟩
    rw [hfs] at hF hst hgd hfl
    obtain ⟨L, hL⟩ : ∃ L, fs.length = L := ⟨_, rfl⟩
    rw [hL] at hF hfl
    have HF := Lib.hid hF
    have HST := Lib.hid hst
    have HGD := Lib.hid hgd
    have HLL := Lib.hid hL
    clear ha ho h1 hz1 HON hv1 hl1 q1 q2 q3 hw1 hrc hwf1 hby1 hly1 hst hF hgd hA hbW1 hgW1 hfs hL HBY HXL hc hcm
    go_wp2_with fail
    refine HF.out.mono ?_
    clear HF
    rintro e W2 ⟨A2, rfl, hb2, hl2⟩
    have HZ2 := Lib.hid (block_keep HZ1.out hb2)
    have HH2 := Lib.hid (block_keep HH1.out hb2)
    have HB2 := Lib.hid (HB1.out.trans (hb2.mono HB1.out.size))
    have HL2 := Lib.hid (HL1.out.below (hb2.mono HB1.out.size))
    have HS2 : Hid (w.heap.size < W2.heap.size ∧ g < W2.heap.size) := Lib.hid ⟨Nat.lt_trans HGG.out.1 (Nat.lt_of_lt_of_le HGW.out hb2.size), Nat.lt_of_lt_of_le HGW.out hb2.size⟩
    have HFL : Hid (FieldsLie W2 (g + 1) A2 g fs) := Lib.hid fun hne => by
      obtain ⟨b, e, h1, h2⟩ := hl2 hne
      exact ⟨b, e, Nat.le_trans HGW.out h1, h2⟩
    clear hb2 hl2 HZ1 HH1 HB1 HL1 HGW
    go_wp2_with fail
    go_loopw [5, 6, 24] (fun bv kv iv wr => ∃ (i : Nat) (ci : Cmd) (zs : List Int) (A' : Option Addr) (cap' : Nat) (vi : Value), bv = .slice A' zs.length cap' ∧ kv = .bool true ∧ iv = .int .i64 i ∧ i ≤ L ∧ O = readOn (fs.drop i) ci zs ∧ Lies .u8 wr w.heap.size A' zs ∧ IsBytes zs ∧ zs.length ≤ cap' ∧ cap' ≤ maxLen ∧ zs.length ≤ 549755813888 ∧ wr.heap[g]? = some (cmdO vi ci) ∧ OwnR wr W2.heap.size vi ci.recs ∧ ci.wf ∧ ci.recs.length ≤ 50 * i ∧ AsideG W2.heap.size g W2 wr) (fun _ _ iv _ => L - (intOf iv).toNat)
    case atStart => exact ⟨0, c1, ys, A1, cap1, .slice none 0 0, rfl, rfl, rfl, Nat.zero_le _, HST.out, HL2.out, HBY1.out, HQ.out.1, HQ.out.2.1, HXY.out, HH2.out, by rw [HRC.out]; exact OwnR.nil, HWF1.out, by rw [HRC.out]; exact Nat.zero_le _, AsideG.refl _ _ _⟩
    case round =>
      obtain ⟨i, ci, zs, A', cap', vi, rfl, rfl, rfl, hi, hst, hl, hby, hc, hcm, hxl, hbl, hown, hwf, hrl, hasd⟩ := hrel
      have HST := Lib.hid hst
      have HLI := Lib.hid hl
      have HBY := Lib.hid hby
      have HXL := Lib.hid hxl
      have HBL := Lib.hid hbl
      have HOW := Lib.hid hown
      have HWF := Lib.hid hwf
      have HRL := Lib.hid hrl
      have HAS := Lib.hid hasd
      have HZR : Hid (wr.heap[w.heap.size]? = some (cmdO (.slice none 0 0) zeroCmd)) := Lib.hid ((hasd.block _ HS2.out.1 (Nat.ne_of_lt HGG.out.1)).trans HZ2.out)
      have HBW : Hid (Below w.heap.size w wr) := Lib.hid (HB2.out.trans (hasd.below (Nat.le_of_lt HS2.out.1) (Nat.le_of_lt HGG.out.1)))
      by_cases hlt : i < L
      · have hlt2 : i < fs.length := by rw [HLL.out]; exact hlt
        obtain ⟨b, rfl, hcell⟩ := (HFL.out.keep hasd.grown (Nat.lt_succ_self _)).at_ hlt2
        rw [List.drop_eq_getElem_cons hlt2, readOn_cons] at hst
        have hgd := HGD.out _ (List.getElem_mem hlt2)
        have hnx : ∀ p, takeF ci zs fs[i] = some p → O = readOn (fs.drop (i + 1)) p.1 p.2 := fun p hp => by rw [hst, hp]; rfl
        have hno : takeF ci zs fs[i] = none → O = none := fun hp => by rw [hst, hp]; rfl
        obtain ⟨f, hf⟩ : ∃ f, fs[i] = f := ⟨_, rfl⟩
        rw [hf] at hcell hgd hnx hno
        have HTK := Lib.hid (take_any wr w.heap.size W2.heap.size g (Nat.le_of_lt HGG.out.1) HS2.out.2 hasd.size vi ci hbl hown (by have := hfl; omega) A' zs cap' hl hby hc hcm f hgd)
        have HNX := Lib.hid hnx
        have HNO := Lib.hid hno
        clear hst hl hby hc hcm hxl hbl hown hwf hrl hasd hf hgd hnx hno
        go_wp2_with fail
        refine HTK.out.mono ?_
        clear HTK
        rintro e w3 ⟨ha, ⟨ho, rfl, v3, c3, h3, hk3⟩ | ⟨c3, zs3, A3, cap3, v3, ho, rfl, hl3, q1, q2, q3, h3, hw3, hv3⟩⟩
        · have HN := Lib.hid (HNO.out ho)
          have hz3 : w3.heap[w.heap.size]? = some (cmdO (.slice none 0 0) zeroCmd) := (ha.block _ HS2.out.1 (Nat.ne_of_lt HGG.out.1)).trans HZR.out
          have HZ3 := Lib.hid hz3
          have HB3 := Lib.hid (HBW.out.trans (ha.below (Nat.le_of_lt HS2.out.1) (Nat.le_of_lt HGG.out.1)))
          clear ha ho h3 hk3
          obtain ⟨r0, r1, r2, r3, r4, r5, r6, r7, r8, r9, r10, r11, r12⟩ := cmd_at HZ3.out
          have fz := cmd_free HZ3.out
          have z0 := fz 0
          have z1 := fz 1
          have z2 := fz 2
          have z3 := fz 3
          have z4 := fz 4
          have z5 := fz 5
          have z6 := fz 6
          have z7 := fz 7
          have z8 := fz 8
          have z9 := fz 9
          have z10 := fz 10
          have z11 := fz 11
          have z12 := fz 12
          clear fz
          go_wp2_with fail
          (try simp only [Exit.inBlock, Exit.then])
          obtain ⟨k0, k1, k2, k3, k4, k5, k6, k7, k8, k9, k10, k11, k12⟩ := cmd_at (setAll_heap HZ3.out (.slice none 0 0) zeroCmd)
          change bodyPost _ _ _ _ _ (setAll w3 w.heap.size (.slice none 0 0) zeroCmd)
          have HSA := Lib.hid (setAll_grown w3 w.heap.size (.slice none 0 0) zeroCmd)
          generalize setAll w3 w.heap.size (.slice none 0 0) zeroCmd = WF at *
          refine bodyPost_ret (by simp [results, Tryd.results12, go_sem, k0, k1, k2, k3, k4, k5, k6, k7, k8, k9, k10, k11, k12]; try rfl) rfl ?_
          exact ⟨grow_below HB3.out HSA.out (Nat.le_refl _), .inl ⟨HN.out, rfl⟩⟩
        · have HA := Lib.hid ha
          have HT3 := Lib.hid (takeF_wf HWF.out HBY.out HXL.out ho)
          have HN := Lib.hid (HNX.out _ ho)
          have HL3 := Lib.hid hl3
          have HQ3 := Lib.hid (And.intro q1 q2)
          have HH3 := Lib.hid h3
          have HO3 := Lib.hid hw3
          clear ha ho hl3 q1 q2 q3 h3 hw3 hv3
          go_wp2_with fail
          go_roundw
          case rel => exact ⟨i + 1, c3, zs3, A3, cap3, v3, rfl, rfl, by go_num, hlt, HN.out, HL3.out, HT3.out.2.1, HQ3.out.1, HQ3.out.2, Nat.le_trans HT3.out.2.2.1 HXL.out, HH3.out, HO3.out, HT3.out.1, by have := HT3.out.2.2.2; have := HRL.out; omega, HAS.out.trans HA.out⟩
          case measure => simp [intOf]; omega
      · obtain rfl : i = L := by omega
        rw [List.drop_of_length_le (by rw [HLL.out]; exact Nat.le_refl _), readOn_nil] at hst
        by_cases hz0 : zs.length = 0
        · have hzn : zs = [] := List.eq_nil_of_length_eq_zero hz0
          obtain ⟨Av, capv, rfl, hrl2⟩ := own_lie hown hwf.recs
          have HRT := Lib.hid (vcright_any wr (HT.out.below HBW.out) Av capv ci hrl2 hwf)
          have hcg := cmd_at hbl
          subst hzn
          unfold cmdV at HRT
          by_cases hrt : ci.right
          · have hq : decide ci.right = true := decide_eq_true hrt
            rw [hq] at HRT
            have HE : Hid (O = some ci) := Lib.hid (by rw [hst, if_pos ⟨rfl, hrt⟩])
            obtain ⟨g0, g1, g2, g3, g4, g5, g6, g7, g8, g9, g10, g11, g12⟩ := hcg
            clear hst hl hby hc hcm hxl hbl hown hwf hrl hasd hrl2 hrt hq hz0
            go_upto_region 10 with fail
            go_wp2_with (go_at_call 9; refine HRT.out.mono ?_; rintro e w5 ⟨rfl, hb5⟩; have HB5 := Lib.hid hb5; have HZ5 := Lib.hid (block_keep HZR.out hb5); obtain ⟨g0, g1, g2, g3, g4, g5, g6, g7, g8, g9, g10, g11, g12⟩ := cmd_at (block_keep HBL.out hb5); obtain ⟨r0, r1, r2, r3, r4, r5, r6, r7, r8, r9, r10, r11, r12⟩ := cmd_at HZ5.out; have fz := cmd_free HZ5.out; have z0 := fz 0; have z1 := fz 1; have z2 := fz 2; have z3 := fz 3; have z4 := fz 4; have z5 := fz 5; have z6 := fz 6; have z7 := fz 7; have z8 := fz 8; have z9 := fz 9; have z10 := fz 10; have z11 := fz 11; have z12 := fz 12; clear fz hb5)
            (try simp only [Exit.inBlock, Exit.then])
            obtain ⟨k0, k1, k2, k3, k4, k5, k6, k7, k8, k9, k10, k11, k12⟩ := cmd_at (setAll_heap HZ5.out (.slice Av ci.recs.length capv) ci)
            change bodyPost _ _ _ _ _ (setAll w5 w.heap.size (.slice Av ci.recs.length capv) ci)
            have HSA := Lib.hid (setAll_grown w5 w.heap.size (.slice Av ci.recs.length capv) ci)
            generalize setAll w5 w.heap.size (.slice Av ci.recs.length capv) ci = WF at *
            refine bodyPost_ret (by simp [results, Tryd.results12, go_sem, k0, k1, k2, k3, k4, k5, k6, k7, k8, k9, k10, k11, k12]; try rfl) rfl ?_
            have HB5W : Hid (Below w.heap.size w w5) := Lib.hid (HBW.out.trans (HB5.out.mono HBW.out.size))
            exact ⟨grow_below HB5W.out HSA.out (Nat.le_refl _), .inr ⟨ci, _, HE.out, rfl, ownr_lower ((HOW.out.below HB5.out).kept HSA.out (.inr fun e => Nat.lt_irrefl _ (Nat.lt_of_lt_of_le HS2.out.1 (HOW.out.lt _ e).1))) (Nat.le_of_lt HS2.out.1)⟩⟩
          · have hq : decide ci.right = false := decide_eq_false hrt
            rw [hq] at HRT
            have HN : Hid (O = none) := Lib.hid (by rw [hst, if_neg fun h => hrt h.2])
            obtain ⟨g0, g1, g2, g3, g4, g5, g6, g7, g8, g9, g10, g11, g12⟩ := hcg
            clear hst hl hby hc hcm hxl hbl hown hwf hrl hasd hrl2 hrt hq hz0
            go_upto_region 10 with fail
            go_wp2_with (go_at_call 9; refine HRT.out.mono ?_; rintro e w5 ⟨rfl, hb5⟩; have HB5 := Lib.hid hb5; have HZ5 := Lib.hid (block_keep HZR.out hb5); obtain ⟨r0, r1, r2, r3, r4, r5, r6, r7, r8, r9, r10, r11, r12⟩ := cmd_at HZ5.out; have fz := cmd_free HZ5.out; have z0 := fz 0; have z1 := fz 1; have z2 := fz 2; have z3 := fz 3; have z4 := fz 4; have z5 := fz 5; have z6 := fz 6; have z7 := fz 7; have z8 := fz 8; have z9 := fz 9; have z10 := fz 10; have z11 := fz 11; have z12 := fz 12; clear fz hb5)
            (try simp only [Exit.inBlock, Exit.then])
            obtain ⟨k0, k1, k2, k3, k4, k5, k6, k7, k8, k9, k10, k11, k12⟩ := cmd_at (setAll_heap HZ5.out (.slice none 0 0) zeroCmd)
            change bodyPost _ _ _ _ _ (setAll w5 w.heap.size (.slice none 0 0) zeroCmd)
            have HSA := Lib.hid (setAll_grown w5 w.heap.size (.slice none 0 0) zeroCmd)
            generalize setAll w5 w.heap.size (.slice none 0 0) zeroCmd = WF at *
            refine bodyPost_ret (by simp [results, Tryd.results12, go_sem, k0, k1, k2, k3, k4, k5, k6, k7, k8, k9, k10, k11, k12]; try rfl) rfl ?_
            have HB5W : Hid (Below w.heap.size w w5) := Lib.hid (HBW.out.trans (HB5.out.mono HBW.out.size))
            exact ⟨grow_below HB5W.out HSA.out (Nat.le_refl _), .inl ⟨HN.out, rfl⟩⟩
        · have HN : Hid (O = none) := Lib.hid (by rw [hst, if_neg fun h => hz0 (by rw [h.1]; rfl)])
          have d1 : decide (0 < zs.length) = true := decide_eq_true (Nat.pos_of_ne_zero hz0)
          have d2 : decide ((0 : Int) < (zs.length : Int)) = true := decide_eq_true (by omega)
          clear hst hl hby hc hcm hxl hbl hown hwf hrl hasd hz0
          obtain ⟨r0, r1, r2, r3, r4, r5, r6, r7, r8, r9, r10, r11, r12⟩ := cmd_at HZR.out
          have fz := cmd_free HZR.out
          have z0 := fz 0
          have z1 := fz 1
          have z2 := fz 2
          have z3 := fz 3
          have z4 := fz 4
          have z5 := fz 5
          have z6 := fz 6
          have z7 := fz 7
          have z8 := fz 8
          have z9 := fz 9
          have z10 := fz 10
          have z11 := fz 11
          have z12 := fz 12
          clear fz
          go_wp2_with fail
          (try simp only [Exit.inBlock, Exit.then])
          obtain ⟨k0, k1, k2, k3, k4, k5, k6, k7, k8, k9, k10, k11, k12⟩ := cmd_at (setAll_heap HZR.out (.slice none 0 0) zeroCmd)
          change bodyPost _ _ _ _ _ (setAll wr w.heap.size (.slice none 0 0) zeroCmd)
          have HSA := Lib.hid (setAll_grown wr w.heap.size (.slice none 0 0) zeroCmd)
          generalize setAll wr w.heap.size (.slice none 0 0) zeroCmd = WF at *
          refine bodyPost_ret (by simp [results, Tryd.results12, go_sem, k0, k1, k2, k3, k4, k5, k6, k7, k8, k9, k10, k11, k12]; try rfl) rfl ?_
          exact ⟨grow_below HBW.out HSA.out (Nat.le_refl _), .inl ⟨HN.out, rfl⟩⟩
end Go.Proofs.YtiglignfjegilaaDoor
