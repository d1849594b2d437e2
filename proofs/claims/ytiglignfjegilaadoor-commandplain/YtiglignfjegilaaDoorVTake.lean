/- A contract of the program's own take: a field that bytes begin with, put into a command. -/
import Derived.Test.YtiglignfjegilaaDoorVTakeRecs
import Derived.Test.YtiglignfjegilaaDoorV1
import Derived.Deep.DeepCutAuto
namespace Go.Proofs.YtiglignfjegilaaDoor
open Go.RowKit

/-- What take answers. -/
def Took (B X g : Nat) (v : Value) (c : Cmd) (f : Fld) (o : Option (Cmd × List Int)) (w : World) (e : Ending) (w' : World) : Prop :=
  AsideG X g w w' ∧ ((o = none ∧ e = .returned (.tuple #[.slice none 0 0, .bool false]) ∧ ∃ v' c', w'.heap[g]? = some (cmdO v' c') ∧ c'.kind = c.kind) ∨
    ∃ c' ys A' cap' v', o = some (c', ys) ∧ e = .returned (.tuple #[.slice A' ys.length cap', .bool true]) ∧ Lies .u8 w' B A' ys ∧ ys.length ≤ cap' ∧ cap' ≤ maxLen ∧ (A' = none → cap' = 0) ∧
      w'.heap[g]? = some (cmdO v' c') ∧ OwnR w' X v' c'.recs ∧ (f = .recs ∨ v' = v))
theorem setNum_recs (c : Cmd) (k : Nat) (x : Int) : (c.setNum k x).recs = c.recs := by
  unfold Cmd.setNum
  split <;> rfl
theorem takeF_short {c : Cmd} {xs : List Int} {f : Fld} {x k e : Int} (h : getR xs = (x, k, e)) (he : e ≠ 0) : takeF c xs f = none := by
  unfold takeF
  rw [h, if_pos he]
theorem takeF_at {c : Cmd} {xs : List Int} {n m : Nat} (h : getR xs = ((n : Int), (m : Int), 0)) (f : Fld) :
    takeF c xs f = match (generalizing := false) f with
      | .num k _ _ => some (c.setNum k (unfoldI n), xs.drop m)
      | .sum => if (n : Int) ≤ 4294967295 then some ({ c with sum := (n : Int) }, xs.drop m) else none
      | .group => if (n : Int) ≤ ((xs.drop m).length : Int) then some ({ c with group := textOf ((xs.drop m).take n) }, (xs.drop m).drop n) else none
      | .recs => if 50 < (n : Int) then none else (getRecs n (xs.drop m)).map fun p => ({ c with recs := c.recs ++ p.1 }, p.2) := by
  unfold takeF
  rw [h, if_neg (by simp)]
  cases f <;> simp only [Int.toNat_natCast]
/-- In a world with one more block, a cell of the command being written: all that is asked. -/
theorem took_set {w : World} {B X g j : Nat} {v v2 x : Value} {c c2 : Cmd} (hBg : B ≤ g) (hgX : g < X) (hXw : X ≤ w.heap.size) (ho : OwnR w X v c.recs) (O : Obj)
    (h2 : (w.setCell ⟨g, j, none⟩ x).heap[g]? = some (cmdO v2 c2)) (hv : v2 = v) (hr : c2.recs = c.recs) :
    AsideG X g w ((w.setCell ⟨g, j, none⟩ x).alloc O) ∧ ((w.setCell ⟨g, j, none⟩ x).alloc O).heap[g]? = some (cmdO v2 c2) ∧ OwnR ((w.setCell ⟨g, j, none⟩ x).alloc O) X v2 c2.recs ∧
      ∀ A ys, Lies .u8 w B A ys → Lies .u8 ((w.setCell ⟨g, j, none⟩ x).alloc O) B A ys := by
  have hg : w.grownBy ((w.setCell ⟨g, j, none⟩ x).alloc O) (some g) := cgrown_set _ _ _
  have ha := AsideG.of_grown hg hXw
  subst hv
  refine ⟨ha, cmd_alloc (Nat.lt_of_lt_of_le hgX hXw) h2 O, ?_, fun A ys hl => ha.lies hl (Nat.le_trans hBg (Nat.le_of_lt hgX)) hBg⟩
  rw [hr]
  exact ho.kept hg (.inr fun e => Nat.lt_irrefl _ (Nat.lt_of_lt_of_le hgX (ho.lt g e).1))
set_option maxRecDepth 4000 in
set_option maxHeartbeats 3200000 in
theorem take_any (w : World) (B X g : Nat) (hBg : B ≤ g) (hgX : g < X) (hXw : X ≤ w.heap.size) (v : Value) (c : Cmd) (h : w.heap[g]? = some (cmdO v c)) (ho : OwnR w X v c.recs) (hrl : c.recs.length ≤ 1000000)
    (A : Option Addr) (xs : List Int) (cap : Nat) (hl : Lies .u8 w B A xs) (hby : IsBytes xs) (hc : xs.length ≤ cap) (hcm : cap ≤ maxLen) (f : Fld) (hf : f.good) :
    Calls Tryd.prog 26 #[.slice A xs.length cap, faceF g f] w (Took B X g v c f (takeF c xs f) w) := by
  have hBw : B ≤ w.heap.size := Nat.le_trans hBg (Nat.le_trans (Nat.le_of_lt hgX) hXw)
  have HGT := Lib.hid (get_any A xs cap w (hl.more hBw) hby)
  obtain ⟨x, k, e, hr⟩ : ∃ x k e, getR xs = (x, k, e) := ⟨_, _, _, rfl⟩
  rw [hr] at HGT
  unfold Tells at HGT
  dsimp only at HGT
  have HIN := Lib.hid (And.intro hBg (And.intro hgX hXw))
  have HH := Lib.hid h
  have HO := Lib.hid ho
  have HRL := Lib.hid hrl
  by_cases he : e = 0
  · subst he
    obtain ⟨n, m, rfl, rfl, hm, hm1, hn⟩ := getR_nat hby hr
    have HTK := Lib.hid (takeF_at (c := c) hr)
    have hx0 : 0 < xs.length := by omega
    obtain ⟨b, off, rfl, hx1, hx2⟩ := hl.at_ hx0
    clear hx1 hx2
    have HLC := Lib.hid (hl.cut (n := m) hc)
    have hdl : (xs.drop m).length = xs.length - m := List.length_drop ..
    have hby2 : IsBytes (xs.drop m) := fun q hq => hby q (List.mem_of_mem_drop hq)
    obtain ⟨ys, hys⟩ : ∃ ys, xs.drop m = ys := ⟨_, rfl⟩
    rw [hys] at HTK HLC hdl hby2
    have HBY := Lib.hid hby2
    have HDL := Lib.hid hdl
    clear h ho hrl hl hby hr hby2 hdl hys hx0 hBg hgX hXw
    obtain ⟨F, hF⟩ : ∃ F, faceF g f = F := ⟨_, rfl⟩
    rw [hF]
    go_enter Tryd.func26, Tryd.ntmps26
    go_wp2_with (go_at_call 36; refine HGT.out.mono ?_; rintro e w2 ⟨rfl, rfl⟩; refine Hid.out ?_)
    refine Lib.hid ?_
    clear HGT
    go_upto_region 4 with fail
    go_cut [9] (fun s wx => (∃ b1 o1 c1, s = .slice (some ⟨b1, o1, none⟩) ys.length c1 ∧ Lies .u8 w B (some ⟨b1, o1, none⟩) ys ∧ ys.length ≤ c1 ∧ c1 ≤ maxLen) ∧ wx = w)
    case first =>
      by_cases hcn : cap = m
      · have HX := HLC.out
        rw [if_pos hcn] at HX
        have HX2 := Lib.hid HX
        clear HX
        go_wp2_with fail
        all_goals go_meet
        all_goals exact ⟨⟨b, off, cap - m, by first | (rw [HDL.out]; done) | (rw [HDL.out]; first | rfl | (congr 1 <;> omega)), HX2.out, by rw [HDL.out]; omega, by omega⟩, rfl⟩
      · have HX := HLC.out
        rw [if_neg hcn] at HX
        have HX2 : Hid (Lies .u8 w B (some ⟨b, off + m, none⟩) ys) := Lib.hid (by simpa [add_lit] using HX)
        clear HX
        go_wp2_with fail
        all_goals go_meet
        all_goals exact ⟨⟨b, off + m, cap - m, by first | (rw [HDL.out]; done) | (rw [HDL.out]; first | rfl | (congr 1 <;> omega)), HX2.out, by rw [HDL.out]; omega, by omega⟩, rfl⟩
    case rest =>
      obtain ⟨⟨b1, o1, c1, rfl, hl1, hc1, hm1'⟩, hwc⟩ := hcut
      have hwc' := hwc.symm
      clear hwc
      subst hwc'
      have HL1 := Lib.hid hl1
      clear hl1 HLC hm hm1 hc hcm HDL
      subst hF
      have hgw : g < w.heap.size := Nat.lt_of_lt_of_le HIN.out.2.1 HIN.out.2.2
      have HBL : ∀ o, Hid (Below w.heap.size w (w.alloc o)) := fun o => Lib.hid ((Below.refl _ w).alloc (Nat.le_refl _) o)
      have hw2 := fun o => cmd_writes HH.out o
      have hz := fun o j => (hw2 o).2 j
      have H2 := Lib.hid (fun o => (hw2 o).1)
      clear hw2
      cases f with
      | num k lo hi =>
        have HT : Hid (takeF c xs (.num k lo hi) = some (c.setNum k (unfoldI n), ys)) := HTK.out (.num k lo hi) |> Lib.hid
        have HU := Lib.hid (fun W => unfold_any (n : Int) W (by omega) hn)
        have gk : (w.alloc (.cells #[.pointer (some ⟨g, k, none⟩), .int .i64 lo, .int .i64 hi] 59)).cell? ⟨g, k, none⟩ = some (.int .i64 (c.num k)) := num_at (H2.out _) hf.1
        have hzk := hz (.cells #[.pointer (some ⟨g, k, none⟩), .int .i64 lo, .int .i64 hi] 59) k
        have HS : Hid ((w.setCell ⟨g, k, none⟩ (.int .i64 (unfoldI n))).heap[g]? = some (cmdO v (c.setNum k (unfoldI n)))) := Lib.hid (set_num _ HH.out hf.1)
        have HFIN := Lib.hid (took_set HIN.out.1 HIN.out.2.1 HIN.out.2.2 HO.out (.cells #[.pointer (some ⟨g, k, none⟩), .int .i64 lo, .int .i64 hi] 59) HS.out rfl (setNum_recs _ _ _))
        have p0 : (w.alloc (.cells #[.pointer (some ⟨g, k, none⟩), .int .i64 lo, .int .i64 hi] 59)).cell? ⟨w.heap.size, 0, none⟩ = some (.pointer (some ⟨g, k, none⟩)) := by simp [World.cell?_alloc_at]
        have HGS : Hid (w.heap.size ≠ g) := Lib.hid (Nat.ne_of_gt hgw)
        have HSW : Hid ((w.alloc (.cells #[.pointer (some ⟨g, k, none⟩), .int .i64 lo, .int .i64 hi] 59)).setCell ⟨g, k, none⟩ (.int .i64 (unfoldI n)) = (w.setCell ⟨g, k, none⟩ (.int .i64 (unfoldI n))).alloc (.cells #[.pointer (some ⟨g, k, none⟩), .int .i64 lo, .int .i64 hi] 59)) := Lib.hid (World.setCell_alloc_past _ _ _ _ hgw)
        clear hz
        unfold faceF
        have a_num := ta_num_num
        have a_recs := ta_num_recs
        have a_group := ta_num_group
        have a_sum := ta_num_sum
        go_upto_region 7 with fail
        obtain ⟨W, hW⟩ : ∃ W, w.alloc (.cells #[.pointer (some ⟨g, k, none⟩), .int .i64 lo, .int .i64 hi] 59) = W := ⟨_, rfl⟩
        rw [hW] at gk hzk p0 HSW
        rw [hW]
        obtain ⟨R, hR⟩ : ∃ R, w.heap.size = R := ⟨_, rfl⟩
        rw [hR] at p0 HGS
        rw [hR]
        clear a_num a_recs a_group a_sum
        refine wp_region_held_drew (S := fun W' => W'.cell? ⟨R, 0, none⟩ = some (.pointer (some ⟨g, k, none⟩))) (by kernel_rfl) p0 (fun hHeld => ?_)
        refine held_take 0 35 (v := ?v1) rfl rfl (by kernel_rfl) (by kernel_rfl) (by kernel_rfl) (fun _ _ _ h => h) hHeld (Or.inl ⟨by rfl, ?y1⟩) ?r1
        case y1 => intro w hSw; (try dsimp only at hSw); go_simp; (try with_reducible rfl)
        simp only [List.setIfInBounds_toArray, List.set_cons_zero, List.set_cons_succ]
        refine held_take 1 36 (v := ?v2) rfl rfl (by kernel_rfl) (by kernel_rfl) (by kernel_rfl) (fun _ _ _ h => h) hHeld (Or.inl ⟨by rfl, ?y2⟩) ?r2
        case y2 => intro w hSw; (try dsimp only at hSw); go_simp; (try with_reducible rfl)
        simp only [List.setIfInBounds_toArray, List.set_cons_zero, List.set_cons_succ]
        refine held_take 2 37 (v := ?v3) rfl rfl (by kernel_rfl) (by kernel_rfl) (by kernel_rfl) (fun _ _ _ h => h) hHeld (Or.inl ⟨by rfl, ?y3⟩) ?r3
        case y3 => intro w hSw; (try dsimp only at hSw); go_simp; (try with_reducible rfl)
        simp only [List.setIfInBounds_toArray, List.set_cons_zero, List.set_cons_succ]
        refine wpAnyH_ready (rs := [3]) (by kernel_rfl) (by simp) ?_
        refine AllReadyH.cons (o := ⟨some 38, _, _, _, _, _⟩) rfl (fun K hK => ?_) AllReadyH.nil
        rw [if_pos (by rfl)]
        go_simp
        refine (HU.out _).mono ?_
        rintro e w3 ⟨rfl, rfl⟩
        refine hK.out _ _ hHeld (fun hHeld => ?_)
        clear hK K
        (try simp only [Act.put, List.setIfInBounds_toArray, List.set_cons_zero, List.set_cons_succ])
        refine held_take 4 39 (v := ?v4) rfl rfl (by kernel_rfl) (by kernel_rfl) (by kernel_rfl) (fun _ _ _ h => h) hHeld (Or.inl ⟨by rfl, ?y4⟩) ?r4
        case y4 => intro w hSw; (try dsimp only at hSw); go_simp; (try with_reducible rfl)
        simp only [List.setIfInBounds_toArray, List.set_cons_zero, List.set_cons_succ]
        have hR6 : (W.setCell ⟨g, k, none⟩ (.int .i64 (unfoldI n))).cell? ⟨R, 0, none⟩ = some (.pointer (some ⟨g, k, none⟩)) := (World.cell?_of_block (a := ⟨R, 0, none⟩) (heap_setCell_other W ⟨g, k, none⟩ R (.int .i64 (unfoldI n)) HGS.out)).trans p0
        refine wpAnyH_ready (rs := [5]) (by kernel_rfl) (by simp) ?_
        refine AllReadyH.cons (o := ⟨none, _, _, _, _, _⟩) rfl (fun K hK => ?_) AllReadyH.nil
        rw [if_pos (by rfl)]
        go_simp
        refine hK.out _ _ hR6 (fun _ => ?_)
        clear hK K
        refine wpAnyH_done (by kernel_rfl) ?_ _
        rw [HSW.out]
        have HFA := Lib.hid HFIN.out.1
        have HFH := Lib.hid HFIN.out.2.1
        have HFO := Lib.hid HFIN.out.2.2.1
        have HFL := Lib.hid (HFIN.out.2.2.2 _ _ HL1.out)
        clear HFIN HSW gk hzk p0 hR6
        generalize (w.setCell ⟨g, k, none⟩ (.int .i64 (unfoldI n))).alloc (.cells #[.pointer (some ⟨g, k, none⟩), .int .i64 lo, .int .i64 hi] 59) = W6 at *
        go_wp2_with fail
        go_ret2
        exact ⟨⟨HFA.out.os, HFA.out.tape, HFA.out.output, HFA.out.size, HFA.out.block⟩, .inr ⟨_, ys, some ⟨b1, o1, none⟩, c1, v, HT.out, rfl, HFL.out, hc1, hm1', by simp, HFH.out, HFO.out, .inr rfl⟩⟩
      | recs =>
        have HTR := Lib.hid (takerecs_any (w.alloc (.cells #[.pointer none, .int .i64 0, .int .i64 0] 59)) B X g HIN.out.1 HIN.out.2.1 (Nat.le_trans HIN.out.2.2 (HBL _).out.size) v c (H2.out _) (HO.out.alloc _) HRL.out (some ⟨b1, o1, none⟩) ys c1 (HL1.out.alloc hBw _) HBY.out hc1 hm1' (by simp) n hn)
        have HT : Hid (takeF c xs .recs = (if 50 < n then none else getRecs n ys).map fun p => ({ c with recs := c.recs ++ p.1 }, p.2)) := Lib.hid (by
          rw [HTK.out .recs]
          dsimp only
          by_cases h50 : 50 < n
          · rw [if_pos h50, if_pos (by omega)]; rfl
          · rw [if_neg h50, if_neg (by omega)])
        obtain ⟨O, hO⟩ : ∃ O, (if 50 < n then none else getRecs n ys) = O := ⟨_, rfl⟩
        rw [hO] at HTR HT
        clear hO hz HTK
        unfold faceF
        have a_num := ta_recs_num
        have a_recs := ta_recs_recs
        have a_group := ta_recs_group
        have a_sum := ta_recs_sum
        go_wp2_with fail
        refine HTR.out.mono ?_
        rintro e w3 ⟨ha, ⟨ho3, rfl, v3, rs3, h3⟩ | ⟨rs3, y3, A3, c3, v3, ho3, rfl, hl3, q1, q2, q3, h3, hw3⟩⟩
        · have HA := Lib.hid (AsideG.trans (AsideG.of_below (HBL _).out HIN.out.2.2) ha)
          have HX3 := Lib.hid h3
          have HO3 := Lib.hid ho3
          clear ha h3 ho3
          go_wp2_with fail
          go_ret2
          exact ⟨HA.out, .inl ⟨by rw [HT.out, HO3.out]; rfl, rfl, v3, { c with recs := rs3 }, HX3.out, rfl⟩⟩
        · have HA := Lib.hid (AsideG.trans (AsideG.of_below (HBL _).out HIN.out.2.2) ha)
          have HX3 := Lib.hid h3
          have HO3 := Lib.hid ho3
          have HL3 := Lib.hid hl3
          have HW3 := Lib.hid hw3
          have HQ3 := Lib.hid q3
          clear ha h3 ho3 hl3 hw3 q3
          go_wp2_with fail
          go_ret2
          exact ⟨HA.out, .inr ⟨{ c with recs := c.recs ++ rs3 }, y3, A3, c3, v3, by rw [HT.out, HO3.out]; rfl, rfl, HL3.out, q1, q2, HQ3.out, HX3.out, HW3.out, .inl rfl⟩⟩
      | group =>
        have gk : (w.alloc (.cells #[.pointer none, .int .i64 0, .int .i64 0] 59)).cell? ⟨g, 4, none⟩ = some (.string c.group) := (cmd_at (H2.out _)).2.2.2.2.1
        have hzk := hz (.cells #[.pointer none, .int .i64 0, .int .i64 0] 59) 4
        by_cases hnl : n ≤ ys.length
        · have HT : Hid (takeF c xs .group = some ({ c with group := textOf (ys.take n) }, ys.drop n)) := Lib.hid (by
            rw [HTK.out .group]
            dsimp only
            rw [if_pos (by omega)])
          have d1 : decide ((n : Int) ≤ (ys.length : Int)) = true := decide_eq_true (by omega)
          have d2 : decide (n ≤ ys.length) = true := decide_eq_true hnl
          have hcv : (convert 30 9 (.slice (some ⟨b1, o1, none⟩) n c1)).run Tryd.prog (w.alloc (.cells #[.pointer none, .int .i64 0, .int .i64 0] 59)) = .ok (.string (textOf (ys.take n))) (w.alloc (.cells #[.pointer none, .int .i64 0, .int .i64 0] 59)) := by
            have := conv_bytes (P := Tryd.prog) 30 9 5 Tryd.underlying30 Tryd.underlying5 Tryd.underlying9 ((HL1.out.alloc hBw (.cells #[.pointer none, .int .i64 0, .int .i64 0] 59)).take n) c1
            rw [List.length_take, Nat.min_eq_left hnl] at this
            exact this
          obtain ⟨T, hT⟩ : ∃ T, textOf (ys.take n) = T := ⟨_, rfl⟩
          rw [hT] at HT hcv
          have HFIN := Lib.hid (took_set (j := 4) (x := .string T) (v2 := v) (c2 := { c with group := T }) HIN.out.1 HIN.out.2.1 HIN.out.2.2 HO.out (.cells #[.pointer none, .int .i64 0, .int .i64 0] 59) ((heap_setCell_same _ _ _ _ _ _ HH.out).trans rfl) rfl rfl)
          have HFL := Lib.hid ((HFIN.out.2.2.2 _ _ HL1.out).cut (n := n) hc1)
          have hyw : IntKind.u64.wrap (ys.length : Int) = (ys.length : Int) := by
            rw [IntKind.wrap_u64]
            unfold maxLen at hm1'
            omega
          have hnc : n ≤ c1 := Nat.le_trans hnl hc1
          clear HTK hz hT
          unfold faceF
          have a_num := ta_group_num
          have a_recs := ta_group_recs
          have a_group := ta_group_group
          have a_sum := ta_group_sum
          by_cases hcn : c1 = n
          · have HX := HFL.out
            rw [if_pos hcn] at HX
            rw [hcn] at hcv
            have HX2 := Lib.hid HX
            clear HX
            go_wp2_with fail
            go_ret2
            exact ⟨HFIN.out.1, .inr ⟨{ c with group := T }, ys.drop n, some ⟨b1, o1, none⟩, 0, v, HT.out, by rw [List.length_drop]; rfl, HX2.out, by rw [List.length_drop]; exact Nat.le_of_eq (Nat.sub_eq_zero_of_le (by rw [← hcn]; exact hc1)), Nat.zero_le _, by simp, HFIN.out.2.1, HFIN.out.2.2.1, .inr rfl⟩⟩
          · have HX := HFL.out
            rw [if_neg hcn] at HX
            have HX2 : Hid (Lies .u8 ((w.setCell ⟨g, 4, none⟩ (.string T)).alloc (.cells #[.pointer none, .int .i64 0, .int .i64 0] 59)) B (some ⟨b1, o1 + n, none⟩) (ys.drop n)) := Lib.hid (by simpa [add_lit] using HX)
            clear HX
            go_wp2_with fail
            go_ret2
            exact ⟨HFIN.out.1, .inr ⟨{ c with group := T }, ys.drop n, some ⟨b1, o1 + n, none⟩, c1 - n, v, HT.out, by first | (rw [List.length_drop]; done) | (rw [List.length_drop]; first | rfl | (congr 1 <;> omega)), HX2.out, by rw [List.length_drop]; exact Nat.sub_le_sub_right hc1 n, Nat.le_trans (Nat.sub_le _ _) hm1', by simp, HFIN.out.2.1, HFIN.out.2.2.1, .inr rfl⟩⟩
        · have HT : Hid (takeF c xs .group = none) := Lib.hid (by
            rw [HTK.out .group]
            dsimp only
            rw [if_neg (by omega)])
          have d1 : decide ((n : Int) ≤ (ys.length : Int)) = false := decide_eq_false (by omega)
          have d2 : decide (n ≤ ys.length) = false := decide_eq_false hnl
          have hyw : IntKind.u64.wrap (ys.length : Int) = (ys.length : Int) := by
            rw [IntKind.wrap_u64]
            unfold maxLen at hm1'
            omega
          clear HTK hz
          unfold faceF
          have a_num := ta_group_num
          have a_recs := ta_group_recs
          have a_group := ta_group_group
          have a_sum := ta_group_sum
          go_wp2_with fail
          go_ret2
          exact ⟨AsideG.of_below (HBL _).out HIN.out.2.2, .inl ⟨HT.out, rfl, v, c, H2.out _, rfl⟩⟩
      | sum =>
        have gk : (w.alloc (.cells #[.pointer none, .int .i64 0, .int .i64 0] 59)).cell? ⟨g, 8, none⟩ = some (.int .u32 c.sum) := (cmd_at (H2.out _)).2.2.2.2.2.2.2.2.1
        have hzk := hz (.cells #[.pointer none, .int .i64 0, .int .i64 0] 59) 8
        by_cases hnl : n ≤ 4294967295
        · have HT : Hid (takeF c xs .sum = some ({ c with sum := (n : Int) }, ys)) := Lib.hid (by
            rw [HTK.out .sum]
            dsimp only
            rw [if_pos (by omega)])
          have d1 : decide ((n : Int) ≤ 4294967295) = true := decide_eq_true (by omega)
          have d2 : decide (n ≤ 4294967295) = true := decide_eq_true hnl
          have HFIN := Lib.hid (took_set (j := 8) (x := .int .u32 (n : Int)) (v2 := v) (c2 := { c with sum := (n : Int) }) HIN.out.1 HIN.out.2.1 HIN.out.2.2 HO.out (.cells #[.pointer none, .int .i64 0, .int .i64 0] 59) ((heap_setCell_same _ _ _ _ _ _ HH.out).trans rfl) rfl rfl)
          have HFL := Lib.hid (HFIN.out.2.2.2 _ _ HL1.out)
          clear HTK hz
          unfold faceF
          have a_num := ta_sum_num
          have a_recs := ta_sum_recs
          have a_group := ta_sum_group
          have a_sum := ta_sum_sum
          go_wp2_with fail
          go_ret2
          exact ⟨HFIN.out.1, .inr ⟨{ c with sum := (n : Int) }, ys, some ⟨b1, o1, none⟩, c1, v, HT.out, rfl, HFL.out, hc1, hm1', by simp, HFIN.out.2.1, HFIN.out.2.2.1, .inr rfl⟩⟩
        · have HT : Hid (takeF c xs .sum = none) := Lib.hid (by
            rw [HTK.out .sum]
            dsimp only
            rw [if_neg (by omega)])
          have d1 : decide ((n : Int) ≤ 4294967295) = false := decide_eq_false (by omega)
          have d2 : decide (n ≤ 4294967295) = false := decide_eq_false hnl
          clear HTK hz
          unfold faceF
          have a_num := ta_sum_num
          have a_recs := ta_sum_recs
          have a_group := ta_sum_group
          have a_sum := ta_sum_sum
          go_wp2_with fail
          go_ret2
          exact ⟨AsideG.of_below (HBL _).out HIN.out.2.2, .inl ⟨HT.out, rfl, v, c, H2.out _, rfl⟩⟩
  · have hne : (e != 0) = true := by simp [he]
    have HN := Lib.hid (takeF_short (c := c) (f := f) hr he)
    obtain ⟨F, hF⟩ : ∃ F, faceF g f = F := ⟨_, rfl⟩
    rw [hF]
    clear h ho hrl hl hby hr he
    go_enter Tryd.func26, Tryd.ntmps26
    go_wp2_with (go_at_call 36; refine HGT.out.mono ?_; rintro e w2 ⟨rfl, rfl⟩)
    go_ret2
    exact ⟨AsideG.refl _ _ _, .inl ⟨HN.out, rfl, v, c, HH.out, rfl⟩⟩
end Go.Proofs.YtiglignfjegilaaDoor
