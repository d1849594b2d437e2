/- Contracts of the program's own put and putRecords: the bytes of a command's field. -/
import Derived.Test.YtiglignfjegilaaDoorVAssert
import Derived.Test.YtiglignfjegilaaDoorRecProg
import Derived.Test.YtiglignfjegilaaDoorV1
namespace Go.Proofs.YtiglignfjegilaaDoor
open Go.RowKit

theorem putRs_snoc (rs : List Rec) (i : Nat) (h : i < rs.length) : (rs.take (i + 1)).flatMap putR = (rs.take i).flatMap putR ++ putR rs[i] := by
  rw [List.take_succ_eq_append_getElem h, List.flatMap_append, List.flatMap_cons, List.flatMap_nil, List.append_nil]
set_option maxHeartbeats 1600000 in
theorem putrecs_any (w : World) (rs : List Rec) (A : Option Addr) (cap : Nat) (h : RecsLie w A rs cap) (hl : rs.length ≤ 50) :
    Calls Tryd.prog 34 #[.slice A rs.length cap] w (NewBytes w (putL rs.length ++ rs.flatMap putR)) := by
  obtain ⟨i0, hi0, hz0, hz1, hz2⟩ := info_parts byte_info
  have hcl := h.2.1
  have hcm := h.2.2.1
  unfold maxLen at hcm
  have H := Lib.hid h
  have HL := Lib.hid hl
  have HP0 := Lib.hid (put_nil (rs.length : Int) w (by omega) (by omega))
  have hpl := putL_length (rs.length : Int)
  obtain ⟨N0, hN0⟩ : ∃ N0, putL (rs.length : Int) = N0 := ⟨_, rfl⟩
  rw [hN0] at HP0 hpl
  rw [hN0]
  have HPL := Lib.hid hpl
  clear h hl hN0 hpl
  go_enter Tryd.func34, Tryd.ntmps34
  go_wp2_with fail
  refine HP0.out.mono ?_
  rintro e w1 ⟨v1, rfl, hown1, hb1⟩
  have HO1 := Lib.hid hown1
  have HB1 := Lib.hid hb1
  clear hown1 hb1 HP0
  go_wp2_with fail
  go_loopw [3, 12] (fun v iv wr => ∃ i : Nat, iv = .int .i64 i ∧ i ≤ rs.length ∧ Own .u8 5 wr w.heap.size v (N0 ++ (rs.take i).flatMap putR) ∧ Below w.heap.size w wr) (fun _ iv _ => rs.length - (intOf iv).toNat)
  case atStart => exact ⟨0, rfl, Nat.zero_le _, by rw [List.take_zero, List.flatMap_nil, List.append_nil]; exact HO1.out, HB1.out⟩
  case round =>
    obtain ⟨i, rfl, hi, hown, hbel⟩ := hrel
    have hll := HL.out
    have HO := Lib.hid hown
    have HB := Lib.hid hbel
    clear hown
    by_cases hlt : i < rs.length
    · obtain ⟨b, off, rfl, hbl, hat⟩ := H.out.more hlt
      obtain ⟨g0, g1, g2, g3, g4⟩ := hat.keep (w' := wr) fun j => hbel.cell hbl
      have hbs := hbel.size
      have HSG : Hid (N0 ++ (rs.take (i + 1)).flatMap putR = N0 ++ (rs.take i).flatMap putR ++ putR rs[i]) := Lib.hid (by rw [putRs_snoc rs i hlt, List.append_assoc])
      have HWF := Lib.hid (H.out.2.2.2 _ (List.getElem_mem hlt))
      obtain ⟨T, hT⟩ : ∃ T, N0 ++ (rs.take i).flatMap putR = T := ⟨_, rfl⟩
      have HLN : Hid (T.length ≤ 1000000) := Lib.hid (by
        have h1 := putRs_length (rs.take i)
        have h2 := HPL.out.2
        rw [List.length_take] at h1
        rw [← hT, List.length_append]
        omega)
      rw [hT] at HO HSG
      obtain ⟨r, hr⟩ : ∃ r, rs[i] = r := ⟨_, rfl⟩
      rw [hr] at g0 g1 g2 g3 g4 HSG HWF
      have hplr := putR_length r
      obtain ⟨xo, xt, xk, xv, xd⟩ := r
      dsimp only at g0 g1 g2 g3 g4
      have HBX := Lib.hid (HB.out.alloc hbs (.cells #[.int .i64 xo, .int .i64 xt, .string xk, .string xv, .bool xd] 39))
      have HOX := Lib.hid (HO.out.alloc (.cells #[.int .i64 xo, .int .i64 xt, .string xk, .string xv, .bool xd] 39))
      have HP := Lib.hid (fun W => rput_any none [] 0 ⟨xo, xt, xk, xv, xd⟩ W HWF.out Lies.nil (by simp) (by decide) (fun _ => rfl) (by simp))
      rw [List.nil_append] at HP
      unfold recV at HP
      dsimp only at HP
      obtain ⟨L, hL⟩ : ∃ L, putR ⟨xo, xt, xk, xv, xd⟩ = L := ⟨_, rfl⟩
      rw [hL] at HP HSG hplr
      have HLL := Lib.hid hplr
      clear hat hr hbl hbel hL hT hplr HWF
      go_wp2_with fail
      refine (HP.out _).mono ?_
      rintro e w3 ⟨A3, c3, rfl, q1, q2, q3, hl3, hb3⟩
      have HB3 := Lib.hid (HBX.out.trans (hb3.mono HBX.out.size))
      have HO3 := Lib.hid (HOX.out.below hb3)
      have hz3 := HB3.out.size
      have HN3 := Lib.hid q3
      clear hb3 HP q3
      go_wp2_with (at_builtin; refine wpList_append_ints rfl (.tmp 16) (.tmp 18) 30 rfl w.heap.size 5 .u8 i0 1 Tryd.underlying30 hi0 hz0 hz1 hz2 (by decide) _ T rfl HO3.out w3.heap.size A3 L.length c3 L rfl rfl q1 hl3 (by have := HLN.out; have := HLL.out; omega) hz3 HN3.out ?_; intro v5 w5 hown5 hgr5 _; have HB5 := Lib.hid (HB3.out.trans ((HO3.out.grown_below hgr5 hz3))); have HO5 := Lib.hid hown5; clear hown5 hgr5)
      go_roundw
      case rel => exact ⟨i + 1, by go_num, hlt, by rw [HSG.out]; exact HO5.out, HB5.out⟩
      case measure => simp [intOf]; omega
    · obtain rfl : i = rs.length := by omega
      clear hbel
      go_wp2_with fail
      go_ret
      refine ⟨_, rfl, ?_, HB.out⟩
      have := HO.out
      rw [List.take_length] at this
      exact this
set_option maxHeartbeats 1600000 in
theorem putf_any (w : World) (g : Nat) (A : Option Addr) (cap : Nat) (c : Cmd) (f : Fld) (hf : f.good) (h : w.heap[g]? = some (cmdO (.slice A c.recs.length cap) c)) (hr : RecsLie w A c.recs cap) (hfit : f.fit c) :
    Calls Tryd.prog 19 #[faceF g f] w (NewBytes w (f.bytes c)) := by
  have HB : ∀ o, Hid (Below w.heap.size w (w.alloc o)) := fun o => Lib.hid ((Below.refl _ w).alloc (Nat.le_refl _) o)
  have HNB : Hid (∀ (o : Obj) (ys : List Int) (e : Ending) (w' : World), NewBytes (w.alloc o) ys e w' → NewBytes w ys e w') := Lib.hid fun o ys e w' hn => by
    obtain ⟨v, rfl, ho, hb⟩ := hn
    exact ⟨v, rfl, ho.lower (HB o).out.size, (HB o).out.trans (hb.mono (HB o).out.size)⟩
  cases f with
  | num k lo hi =>
    have gk := num_at h hf.1
    have hlt := cell_block_lt gk
    obtain ⟨h0, h1⟩ := hfit
    have hx2 := fold_range _ h0 h1
    show Calls _ _ _ _ (NewBytes w (putL (foldI (c.num k))))
    obtain ⟨x, hx⟩ : ∃ x, c.num k = x := ⟨_, rfl⟩
    rw [hx] at gk h0 h1 hx2 ⊢
    have hg2 : ∀ o, (w.alloc o).cell? ⟨g, k, none⟩ = some (.int .i64 x) := fun o => (World.cell?_alloc_lt _ _ _ hlt).trans gk
    have HF := Lib.hid (fun W => fold_any x W h0 h1)
    have HP := Lib.hid (fun W => put_nil (foldI x) W hx2.1 hx2.2)
    clear h hr hx hf hx2 h0 h1
    unfold faceF
    have a_num := ta_num_num
    have a_recs := ta_num_recs
    have a_group := ta_num_group
    have a_sum := ta_num_sum
    go_enter Tryd.func19, Tryd.ntmps19
    go_wp2_with (first | (go_at_call 33; refine (HF.out _).mono ?_; rintro e w2 ⟨rfl, rfl⟩) | (go_at_call 32; refine (HP.out _).mono ?_; intro e w2 hn; have HN := Lib.hid (HNB.out _ _ _ _ hn); obtain ⟨v2, rfl, _⟩ := hn))
    go_ret
    exact HN.out
  | sum =>
    have g8 := (cmd_at h).2.2.2.2.2.2.2.2.1
    have hlt := cell_block_lt g8
    have h0 : 0 ≤ c.sum := hfit.1
    have h1 : c.sum ≤ 4294967295 := hfit.2
    show Calls _ _ _ _ (NewBytes w (putL c.sum))
    have hg2 : ∀ o, (w.alloc o).cell? ⟨g, 8, none⟩ = some (.int .u32 c.sum) := fun o => (World.cell?_alloc_lt _ _ _ hlt).trans g8
    have HP := Lib.hid (fun W => put_nil c.sum W h0 (by omega))
    obtain ⟨x, hx⟩ : ∃ x, c.sum = x := ⟨_, rfl⟩
    rw [hx] at g8 hg2 HP h0 h1 ⊢
    clear h hr hx hf hfit
    unfold faceF
    have a_num := ta_sum_num
    have a_recs := ta_sum_recs
    have a_group := ta_sum_group
    have a_sum := ta_sum_sum
    go_enter Tryd.func19, Tryd.ntmps19
    go_wp2_with (go_at_call 32; refine (HP.out _).mono ?_; intro e w2 hn; have HN := Lib.hid (HNB.out _ _ _ _ hn); obtain ⟨v2, rfl, _⟩ := hn)
    go_ret
    exact HN.out
  | group =>
    obtain ⟨i0, hi0, hz0, hz1, hz2⟩ := info_parts byte_info
    have g4 := (cmd_at h).2.2.2.2.1
    have hlt := cell_block_lt g4
    have hs : c.group.size ≤ 160 := hfit
    show Calls _ _ _ _ (NewBytes w (putL c.group.size ++ ints c.group))
    obtain ⟨s, hx⟩ : ∃ s, c.group = s := ⟨_, rfl⟩
    rw [hx] at g4 hs ⊢
    have hg2 : ∀ o, (w.alloc o).cell? ⟨g, 4, none⟩ = some (.string s) := fun o => (World.cell?_alloc_lt _ _ _ hlt).trans g4
    have HP := Lib.hid (fun W => put_nil (s.size : Int) W (by omega) (by omega))
    obtain ⟨n, hn⟩ : ∃ n, s.size = n := ⟨_, rfl⟩
    rw [hn] at HP hs ⊢
    have hpl := (putL_length (n : Int)).2
    obtain ⟨T, hT⟩ : ∃ T, putL (n : Int) = T := ⟨_, rfl⟩
    rw [hT] at HP hpl ⊢
    have HPL := Lib.hid hpl
    have HW0 : Hid (Below w.heap.size w (w.alloc (.cells #[.pointer none, .int .i64 0, .int .i64 0] 59)).drew) := Lib.hid (HB _).out.drew
    have HLO : Hid (g < (w.alloc (.cells #[.pointer none, .int .i64 0, .int .i64 0] 59)).drew.heap.size) := Lib.hid (Nat.lt_of_lt_of_le hlt HW0.out.size)
    have HWR : Hid (IntKind.u64.wrap (n : Int) = (n : Int)) := Lib.hid (by rw [IntKind.wrap_u64]; omega)
    clear h hr hx hf hfit hT hpl
    unfold faceF
    have a_num := ta_group_num
    have a_recs := ta_group_recs
    have a_group := ta_group_group
    have a_sum := ta_group_sum
    go_enter Tryd.func19, Tryd.ntmps19
    go_upto_region 9 with fail
    refine wp_region_held_drew (S := fun w1 => w1.cell? ⟨g, 4, none⟩ = some (.string s)) (by kernel_rfl) (hg2 _) (fun hHeld => ?_)
    refine held_take 0 40 (v := ?v1) rfl rfl (by kernel_rfl) (by kernel_rfl) (by kernel_rfl) (fun _ _ _ h => h) hHeld (Or.inl ⟨by rfl, ?y1⟩) ?r1
    case y1 => intro w hSw; (try dsimp only at hSw); go_simp; (try with_reducible rfl)
    simp only [List.setIfInBounds_toArray, List.set_cons_zero, List.set_cons_succ]
    refine held_take 1 41 (v := ?v2) rfl rfl (by kernel_rfl) (by kernel_rfl) (by kernel_rfl) (fun _ _ _ h => h) hHeld (Or.inl ⟨by rfl, ?y2⟩) ?r2
    case y2 => intro w hSw; (try dsimp only at hSw); go_simp; (try with_reducible rfl)
    simp only [List.setIfInBounds_toArray, List.set_cons_zero, List.set_cons_succ]
    refine held_take 2 42 (v := ?v3) rfl rfl (by kernel_rfl) (by kernel_rfl) (by kernel_rfl) (fun _ _ _ h => h) hHeld (Or.inl ⟨by rfl, ?y3⟩) ?r3
    case y3 => intro w hSw; (try dsimp only at hSw); go_simp; (try with_reducible rfl)
    simp only [List.setIfInBounds_toArray, List.set_cons_zero, List.set_cons_succ]
    refine held_take 3 43 (v := ?v4) rfl rfl (by kernel_rfl) (by kernel_rfl) (by kernel_rfl) (fun _ _ _ h => h) hHeld (Or.inl ⟨by rfl, ?y4⟩) ?r4
    case y4 => intro w hSw; (try dsimp only at hSw); go_simp; (try with_reducible rfl)
    simp only [List.setIfInBounds_toArray, List.set_cons_zero, List.set_cons_succ]
    refine held_take 4 44 (v := ?v5) rfl rfl (by kernel_rfl) (by kernel_rfl) (by kernel_rfl) (fun _ _ _ h => h) hHeld (Or.inl ⟨by rfl, ?y5⟩) ?r5
    case y5 => intro w hSw; (try dsimp only at hSw); go_simp; (try with_reducible rfl)
    simp only [List.setIfInBounds_toArray, List.set_cons_zero, List.set_cons_succ]
    refine held_take 6 46 (v := ?v6) rfl rfl (by kernel_rfl) (by kernel_rfl) (by kernel_rfl) (fun _ _ _ h => h) hHeld (Or.inl ⟨by rfl, ?y6⟩) ?r6
    case y6 => intro w hSw; (try dsimp only at hSw); go_simp; (try with_reducible rfl)
    simp only [List.setIfInBounds_toArray, List.set_cons_zero, List.set_cons_succ]
    refine held_take 7 47 (v := ?v7) rfl rfl (by kernel_rfl) (by kernel_rfl) (by kernel_rfl) (fun _ _ _ h => h) hHeld (Or.inl ⟨by rfl, ?y7⟩) ?r7
    case y7 => intro w hSw; (try dsimp only at hSw); go_simp; (try with_reducible rfl)
    simp only [List.setIfInBounds_toArray, List.set_cons_zero, List.set_cons_succ]
    refine held_take 8 48 (v := ?v8) rfl rfl (by kernel_rfl) (by kernel_rfl) (by kernel_rfl) (fun _ _ _ h => h) hHeld (Or.inl ⟨by rfl, ?y8⟩) ?r8
    case y8 => intro w hSw; (try dsimp only at hSw); go_simp; (try with_reducible rfl)
    simp only [List.setIfInBounds_toArray, List.set_cons_zero, List.set_cons_succ]
    refine wpAnyH_ready (rs := [5]) (by kernel_rfl) (by simp) ?_
    refine AllReadyH.cons (o := ⟨some 45, _, _, _, _, _⟩) rfl (fun K hK => ?_) AllReadyH.nil
    rw [if_pos (by rfl)]
    go_simp
    rw [HWR.out]
    refine (HP.out _).mono ?_
    rintro e w2 ⟨v2, rfl, ho2, hb2⟩
    have hs2 := (hb2.cell (p := ⟨g, 4, none⟩) HLO.out).trans (hg2 _)
    have HO2 := Lib.hid ho2
    have HB2 := Lib.hid hb2
    have hz2' := hb2.size
    clear ho2 hb2
    refine hK.out _ _ hs2 (fun hHeld => ?_)
    clear hK K
    (try simp only [Act.put, List.setIfInBounds_toArray, List.set_cons_zero, List.set_cons_succ])
    refine wpAnyH_ready (rs := [9]) (by kernel_rfl) (by simp) ?_
    refine AllReadyH.cons (o := ⟨some 49, _, _, _, _, _⟩) rfl (fun K hK => ?_) AllReadyH.nil
    rw [if_pos (by rfl)]
    refine wp_append_text (.tmp 45) (.tmp 48) 30 9 rfl _ 5 i0 Tryd.underlying30 Tryd.underlying9 hi0 hz0 hz1 hz2 v2 T rfl HO2.out s rfl (by have := HPL.out; omega) hz2' ?_
    intro v3 w3 hown3 hgr3
    have HB3 := Lib.hid (HO2.out.grown_below hgr3 hz2')
    have HO3 := Lib.hid hown3
    have hs3 := hgr3.block g (Nat.lt_of_lt_of_le HLO.out hz2') (fun e => Nat.not_lt_of_le (HO2.out.lt g e.symm).1 HLO.out)
    have hs4 := (World.cell?_of_block (a := ⟨g, 4, none⟩) hs3).trans hs2
    clear hown3 hgr3
    refine hK.out _ _ hs4 (fun hHeld => ?_)
    clear hK K
    (try simp only [Act.put, List.setIfInBounds_toArray, List.set_cons_zero, List.set_cons_succ])
    refine held_take 10 2 (v := ?v9) rfl rfl (by kernel_rfl) (by kernel_rfl) (by kernel_rfl) (fun _ _ _ h => h) hHeld (Or.inl ⟨by rfl, ?y9⟩) ?r9
    case y9 => intro w hSw; (try dsimp only at hSw); go_simp; (try with_reducible rfl)
    simp only [List.setIfInBounds_toArray, List.set_cons_zero, List.set_cons_succ]
    refine wpAnyH_done (by kernel_rfl) ?_ _
    go_wp2_with fail
    go_ret
    exact ⟨v3, rfl, HO3.out.lower HW0.out.size, HW0.out.trans ((HB2.out.trans (HB3.out.mono (Nat.le_refl _))).mono HW0.out.size)⟩
  | recs =>
    have g3 := (cmd_at h).2.2.2.1
    have hlt := cell_block_lt g3
    have hl : c.recs.length ≤ 50 := hfit.1
    show Calls _ _ _ _ (NewBytes w (putL c.recs.length ++ c.recs.flatMap putR))
    have hg2 : ∀ o, (w.alloc o).cell? ⟨g, 3, none⟩ = some (.slice A c.recs.length cap) := fun o => (World.cell?_alloc_lt _ _ _ hlt).trans g3
    have HP := Lib.hid (fun o => putrecs_any (w.alloc o) c.recs A cap (hr.below (HB o).out (Nat.le_refl _)) hl)
    clear h hr hf hfit hl
    unfold faceF
    have a_num := ta_recs_num
    have a_recs := ta_recs_recs
    have a_group := ta_recs_group
    have a_sum := ta_recs_sum
    go_enter Tryd.func19, Tryd.ntmps19
    go_wp2_with (go_at_call 34; refine (HP.out _).mono ?_; intro e w2 hn; have HN := Lib.hid (HNB.out _ _ _ _ hn); obtain ⟨v2, rfl, _⟩ := hn)
    go_ret
    exact HN.out
end Go.Proofs.YtiglignfjegilaaDoor
