/- A contract of the program's frame.Put. -/
import Derived.Test.YtaoflfdpagpgaaaDoorVSum
import Derived.Test.YtaoflfdpagpgaaaDoorVPut
namespace Go.Proofs.YtaoflfdpagpgaaaDoor
open Go.RowKit

theorem make_room_fr (n h p : Nat) (hn : n + h + 4 + p ≤ 1099511627776) (W : World) :
    (Instr.makeSlice 25 (.int .i64 (n : Int)) (.int .i64 ((n : Int) + (h : Int) + 4 + (p : Int)))).run Tryd.prog W = .ok (.slice (some ⟨W.heap.size, 0, none⟩) n (n + h + 4 + p)) (W.alloc (.cells (zeros (n + h + 4 + p)).toArray 5)) := by
  obtain ⟨i0, hi0, hz0, hz1, hz2⟩ := info_parts byte_info
  have hr := run_make (P := Tryd.prog) W 25 5 i0 _ Tryd.underlying25 hi0 hz0 .i64 .i64 (n : Int) ((n : Int) + (h : Int) + 4 + (p : Int)) (by omega) (by omega) (by rw [hz2]; omega) (by omega)
  have e2 : ((n : Int) + (h : Int) + 4 + (p : Int)).toNat = n + h + 4 + p := by omega
  have e3 : (madeCells (Value.int .u8 0).cells (n + h + 4 + p)) = (zeros (n + h + 4 + p)).toArray := by
    rw [← Array.toList_inj]
    exact toList_madeCells_one _ _
  rw [e2, hz1, Nat.mul_one, e3] at hr
  simpa using hr

set_option maxHeartbeats 800000 in
theorem fput_any (A : Option Addr) (xs : List Int) (c : Nat) (D : Option Addr) (ps : List Int) (d : Nat) (w : World) (hh : Half w) (hl : Lies .u8 w w.heap.size A xs) (hc : xs.length ≤ c) (hlp : Lies .u8 w w.heap.size D ps) (hd : ps.length ≤ d) (hD : D = none → d = 0)
    (hb : xs.length ≤ 274877906944) (hbp : ps.length ≤ 274877906944) (hby : IsBytes ps) :
    Calls Tryd.prog 21 #[.slice A xs.length c, .slice D ps.length d] w (NewBytes w (xs ++ frameL ps)) := by
  obtain ⟨i0, hi0, hz0, hz1, hz2⟩ := info_parts byte_info
  have HD := Lib.hid hD
  have h0 := hh.pos
  have HPN := Lib.hid (put_nil (ps.length : Int) w (by omega) (by omega))
  have hH := putL_length (ps.length : Int)
  have hfr : xs ++ frameL ps = xs ++ putL (ps.length : Int) ++ sumL (moreN 0 ps) ++ ps := by unfold frameL; simp
  obtain ⟨out, hout⟩ : ∃ out, out = xs ++ frameL ps := ⟨_, rfl⟩
  rw [← hout] at hfr ⊢
  clear hout hD
  obtain ⟨H, hHe⟩ : ∃ H, putL (ps.length : Int) = H := ⟨_, rfl⟩
  rw [hHe] at HPN hH hfr
  clear hHe
  obtain ⟨n, hnE⟩ : ∃ n, moreN 0 ps = n := ⟨_, rfl⟩
  have hn := moreN_lt 0 ps
  rw [hnE] at hfr hn
  have HNE := Lib.hid hnE
  have HOUT := Lib.hid hfr
  clear hnE hfr
  have hmk := make_room_fr xs.length H.length ps.length (by omega)
  go_enter Tryd.func21, Tryd.ntmps21
  go_wp2_with fail
  refine HPN.out.mono ?_
  rintro e w1 ⟨v1, rfl, hown1, hbel1⟩
  clear HPN
  obtain ⟨A1, c1, rfl, hc1, hm1, hl1⟩ := hown1.parts
  have hA1 : Hid (A1 = none → c1 = 0) := Lib.hid fun h => by
    subst h
    rcases hown1.2 with ⟨h2, h3⟩ | ⟨g, cap, cur, h2, _⟩
    · injection h2
    · cases h2
  clear hown1
  have hlx := (hl.below hbel1).more hbel1.size
  have hlq := (hlp.below hbel1).more hbel1.size
  have hh1 := hh.below hbel1 h0
  clear hl hlp hh
  go_wp2_with (first
    | (with_reducible refine wpList_copy_splice (o := ⟨some 25, _, _, _, _, _⟩) rfl (.tmp 23) (.tmp 24) 25 25 rfl 5 Tryd.underlying25 byte_size (some ⟨w1.heap.size, 0, none⟩) A xs.length (xs.length + H.length + 4 + ps.length) xs.length c rfl rfl w1.heap.size 0 (zeros (xs.length + H.length + 4 + ps.length)) 5 ?h1 (xs.map (Value.int .u8)) ?h2 ?h3 ?h4 (oneCell_ints _ _) w1.heap.size w1 ?h5 (Nat.le_refl _) ?h6))
  case h1 => exact heap_alloc_new w1 _
  case h2 => simp
  case h3 =>
    intro hp
    obtain ⟨b, off, he, hlt, hcell⟩ := hlx (by rintro rfl; simp at hp)
    refine ⟨_, he, fun j u hu => ?_⟩
    have hj : j < xs.length := by
      rcases Nat.lt_or_ge j xs.length with h | h
      · exact h
      · rw [List.getElem?_eq_none (by simpa using h)] at hu; cases hu
    rw [add_lit, World.cell?_alloc_lt _ _ _ hlt, hcell j hj]
    simpa [hj] using hu
  case h4 => simp [zeros_length]; omega
  case h5 => exact (Below.refl _ _).alloc (Nat.le_refl _) _
  case h6 =>
    intro w2 hrow hbel2
    have hown2 := splice_own hrow (Nat.le_refl _) rfl (by omega) (by simp only [maxLen]; omega)
    clear hrow hmk hlx
    have hl2 := hl1.below hbel2
    clear hl1
    go_wp2_with (at_builtin; refine wpList_append_ints rfl (.tmp 26) (.tmp 27) 25 rfl w1.heap.size 5 .u8 i0 1 Tryd.underlying25 hi0 hz0 hz1 hz2 (by decide) _ xs rfl hown2 w1.heap.size A1 H.length c1 H rfl rfl hc1 hl2 (by omega) hbel2.size hA1.out ?_; intro v3 w3 hown3 hgr3 _; have hbel3 : Below w1.heap.size w1 w3 := hbel2.trans (hown2.grown_below hgr3 hbel2.size); have hq3 := hlq.below hbel3; clear hgr3 hown2 hbel2 hl2 hlq)
    have hh3 := hh1.below hbel3 hh1.pos
    have hq4 := hq3.more hbel3.size
    have hs := sum_any D ps d w3 hh3 hq4 hby (by simp only [maxLen]; omega)
    rw [HNE.out] at hs
    refine hs.mono ?_
    rintro e w4 ⟨rfl, rfl⟩
    clear hs
    obtain ⟨ys, hys⟩ : ∃ ys, xs ++ H = ys := ⟨_, rfl⟩
    have hyl : ys.length = xs.length + H.length := by rw [← hys, List.length_append]
    have HO2 := Lib.hid (show out = ys ++ sumL n ++ ps by rw [HOUT.out, hys])
    rw [hys] at hown3
    clear HOUT
    have HYL := Lib.hid hyl
    have yb : ys.length ≤ 549755813888 := by omega
    clear hys hyl hq4
    go_wp2_with fail
    refine (putsum_any v3 ys n w1.heap.size w3 hn hown3 hbel3.size yb).mono ?_
    rintro e w5 ⟨v5, rfl, hown5, hbel5⟩
    have hq5 := hq3.below hbel5
    have hb5 := hbel3.trans hbel5
    obtain ⟨zs, hzs⟩ : ∃ zs, ys ++ sumL n = zs := ⟨_, rfl⟩
    have zb : zs.length + ps.length ≤ 1099511627776 := by rw [← hzs, List.length_append, sumL_length]; omega
    have HO3 := Lib.hid (show out = zs ++ ps by rw [HO2.out, hzs])
    rw [hzs] at hown5
    clear HO2
    clear hzs hown3 hbel5 hq3
    go_wp2_with (at_builtin; refine wpList_append_ints rfl (.tmp 33) (.tmp 34) 25 rfl w1.heap.size 5 .u8 i0 1 Tryd.underlying25 hi0 hz0 hz1 hz2 (by decide) v5 zs rfl hown5 w1.heap.size D ps.length d ps rfl rfl hd hq5 zb hb5.size HD.out ?_; intro v6 w6 hown6 hgr6 _; have hbel6 : Below w1.heap.size w5 w6 := hown5.grown_below hgr6 hb5.size; clear hgr6)
    go_ret
    exact ⟨v6, rfl, HO3.out ▸ hown6.lower hbel1.size, hbel1.trans ((hb5.trans hbel6).mono hbel1.size)⟩
end Go.Proofs.YtaoflfdpagpgaaaDoor
