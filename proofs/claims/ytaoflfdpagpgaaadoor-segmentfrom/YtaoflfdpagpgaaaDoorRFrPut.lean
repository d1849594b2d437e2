/- A contract of the document's own PutFrame. -/
import Derived.Test.YtaoflfdpagpgaaaDoorVSum
import Derived.Test.YtaoflfdpagpgaaaDoorRPut
namespace Go.Proofs.YtaoflfdpagpgaaaDoor
open Go.RowKit

set_option maxHeartbeats 800000 in
theorem reffput_any (A : Option Addr) (xs : List Int) (c : Nat) (D : Option Addr) (ps : List Int) (d : Nat) (w : World) (hl : Lies .u8 w w.heap.size A xs) (hc : xs.length ≤ c) (hA : A = none → c = 0) (hlp : Lies .u8 w w.heap.size D ps) (hd : ps.length ≤ d) (hD : D = none → d = 0)
    (hb : xs.length ≤ 274877906944) (hbp : ps.length ≤ 274877906944) (hby : IsBytes ps) :
    Calls Tryd.prog 23 #[.slice A xs.length c, .slice D ps.length d] w (NewBytes w (xs ++ frameL ps)) := by
  obtain ⟨i0, hi0, hz0, hz1, hz2⟩ := info_parts byte_info
  have HD := Lib.hid hD
  have HPN := Lib.hid (refput_any A xs c (ps.length : Int) w hl hc hA (by omega) (by omega) (by omega))
  have hH := putL_length (ps.length : Int)
  have hfr : xs ++ frameL ps = xs ++ putL (ps.length : Int) ++ sumL (moreN 0 ps) ++ ps := by unfold frameL; simp
  obtain ⟨out, hout⟩ : ∃ out, out = xs ++ frameL ps := ⟨_, rfl⟩
  rw [← hout] at hfr ⊢
  clear hout hD hA
  obtain ⟨ys, hys⟩ : ∃ ys, xs ++ putL (ps.length : Int) = ys := ⟨_, rfl⟩
  have yb : ys.length ≤ 549755813888 := by rw [← hys, List.length_append]; omega
  rw [hys] at HPN hfr
  clear hys hH
  obtain ⟨n, hnE⟩ : ∃ n, moreN 0 ps = n := ⟨_, rfl⟩
  have hn := moreN_lt 0 ps
  rw [hnE] at hfr hn
  have hS : sumL n = [(n : Int) / 16777216, (n : Int) / 65536 % 256, (n : Int) / 256 % 256, (n : Int) % 256] := by
    simp only [sumL, List.cons.injEq, and_true]
    omega
  rw [hS] at hfr
  have HNE := Lib.hid hnE
  obtain ⟨zs, hzs⟩ : ∃ zs, ys ++ [(n : Int) / 16777216, (n : Int) / 65536 % 256, (n : Int) / 256 % 256, (n : Int) % 256] = zs := ⟨_, rfl⟩
  have zb : zs.length + ps.length ≤ 1099511627776 := by rw [← hzs, List.length_append]; simp; omega
  rw [hzs] at hfr
  have HZS := Lib.hid hzs
  have HOUT := Lib.hid hfr
  clear hnE hfr hS hzs
  go_enter Tryd.func23, Tryd.ntmps23
  go_wp2_with fail
  refine HPN.out.mono ?_
  rintro e w1 ⟨v1, rfl, hown1, hbel1⟩
  clear HPN
  have hq1 := hlp.below hbel1
  have hq1' := hq1.more hbel1.size
  clear hl hlp
  have hs := refsum_any D ps d w1 hq1' hby (by simp only [maxLen]; omega)
  rw [HNE.out] at hs
  go_wp2_with fail
  refine hs.mono ?_
  rintro e w2 ⟨rfl, rfl⟩
  clear hs hq1'
  go_wp2_with (first
    | (at_builtin; refine wpList_append_new rfl (.tmp 13) (.tmp 25) 25 rfl w.heap.size 5 .u8 i0 1 Tryd.underlying25 hi0 hz0 hz1 hz2 (by decide) v1 ys rfl w1 [(n : Int) / 16777216, (n : Int) / 65536 % 256, (n : Int) / 256 % 256, (n : Int) % 256] 4 rfl rfl hown1 rfl (by simp; omega) hbel1.size ?_; intro v3 w3 hown3 hbel3; rw [HZS.out] at hown3; have hb3 := hbel1.trans hbel3; have hq3 := hq1.below hbel3)
    | (at_builtin; refine wpList_append_ints rfl (.tmp 27) (.tmp 28) 25 rfl w.heap.size 5 .u8 i0 1 Tryd.underlying25 hi0 hz0 hz1 hz2 (by decide) v3 zs rfl hown3 w.heap.size D ps.length d ps rfl rfl hd hq3 zb hb3.size HD.out ?_; intro v6 w6 hown6 hgr6 _; have hbel6 : Below w.heap.size w3 w6 := hown3.grown_below hgr6 hb3.size; clear hgr6))
  go_ret
  exact ⟨v6, rfl, HOUT.out ▸ hown6, hb3.trans hbel6⟩
end Go.Proofs.YtaoflfdpagpgaaaDoor
