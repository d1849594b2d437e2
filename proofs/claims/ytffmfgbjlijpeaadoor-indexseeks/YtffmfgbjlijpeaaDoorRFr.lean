/- A contract of the document's own PutFrame. · A contract of the document's own GetFrame. -/
import Derived.Test.YtffmfgbjlijpeaaDoorVFr
import Derived.Test.YtffmfgbjlijpeaaDoorR1
namespace Go.Proofs.YtffmfgbjlijpeaaDoor
open Go.RowKit

set_option maxHeartbeats 800000 in
theorem reffput_any (A : Option Addr) (xs : List Int) (c : Nat) (D : Option Addr) (ps : List Int) (d : Nat) (w : World) (hl : Lies .u8 w w.heap.size A xs) (hc : xs.length ≤ c) (hA : A = none → c = 0) (hlp : Lies .u8 w w.heap.size D ps) (hd : ps.length ≤ d) (hD : D = none → d = 0)
    (hb : xs.length ≤ 274877906944) (hbp : ps.length ≤ 274877906944) (hby : IsBytes ps) :
    Calls Tryd.prog 24 #[.slice A xs.length c, .slice D ps.length d] w (NewBytes w (xs ++ frameL ps)) := by
  obtain ⟨i0, hi0, hz0, hz1, hz2⟩ := info_parts byte_info
  have HD := Lib.hid hD
  have HPN := Lib.hid (refput_any A xs c (ps.length : Int) w hl hc hA (by omega) (by omega) (by omega))
  have hH := putL_length (ps.length : Int)
  have hfr : xs ++ frameL ps = xs ++ putL (ps.length : Int) ++ sumL (moreN 0 ps) ++ ps := by unfold frameL; simp
  obtain ⟨out, hout⟩ : ∃ out, out = xs ++ frameL ps := ⟨_, rfl⟩
  rw [← hout] at hfr ⊢
  clear hout hD hA
  obtain ⟨ys, hys⟩ : ∃ ys, xs ++ putL (ps.length : Int) = ys := ⟨_, rfl⟩
  have yb : ys.length ≤ 549755813888 := by rw [← hys, List.length_append]; omega
  rw [hys] at HPN hfr
  clear hys hH
  obtain ⟨n, hnE⟩ : ∃ n, moreN 0 ps = n := ⟨_, rfl⟩
  have hn := moreN_lt 0 ps
  rw [hnE] at hfr hn
  have hS : sumL n = [(n : Int) / 16777216, (n : Int) / 65536 % 256, (n : Int) / 256 % 256, (n : Int) % 256] := by
    simp only [sumL, List.cons.injEq, and_true]
    omega
  rw [hS] at hfr
  have HNE := Lib.hid hnE
  obtain ⟨zs, hzs⟩ : ∃ zs, ys ++ [(n : Int) / 16777216, (n : Int) / 65536 % 256, (n : Int) / 256 % 256, (n : Int) % 256] = zs := ⟨_, rfl⟩
  have zb : zs.length + ps.length ≤ 1099511627776 := by rw [← hzs, List.length_append]; simp; omega
  rw [hzs] at hfr
  have HZS := Lib.hid hzs
  have HOUT := Lib.hid hfr
  clear hnE hfr hS hzs
  go_enter Tryd.func24, Tryd.ntmps24
  go_wp2_with fail
  refine HPN.out.mono ?_
  rintro e w1 ⟨v1, rfl, hown1, hbel1⟩
  clear HPN
  have hq1 := hlp.below hbel1
  have hq1' := hq1.more hbel1.size
  clear hl hlp
  have hs := refsum_any D ps d w1 hq1' hby (by simp only [maxLen]; omega)
  rw [HNE.out] at hs
  go_wp2_with fail
  refine hs.mono ?_
  rintro e w2 ⟨rfl, rfl⟩
  clear hs hq1'
  go_wp2_with (first
    | (at_builtin; refine wpList_append_new rfl (.tmp 13) (.tmp 25) 33 rfl w.heap.size 5 .u8 i0 1 Tryd.underlying33 hi0 hz0 hz1 hz2 (by decide) v1 ys rfl w1 [(n : Int) / 16777216, (n : Int) / 65536 % 256, (n : Int) / 256 % 256, (n : Int) % 256] 4 rfl rfl hown1 rfl (by simp; omega) hbel1.size ?_; intro v3 w3 hown3 hbel3; rw [HZS.out] at hown3; have hb3 := hbel1.trans hbel3; have hq3 := hq1.below hbel3)
    | (at_builtin; refine wpList_append_ints rfl (.tmp 27) (.tmp 28) 33 rfl w.heap.size 5 .u8 i0 1 Tryd.underlying33 hi0 hz0 hz1 hz2 (by decide) v3 zs rfl hown3 w.heap.size D ps.length d ps rfl rfl hd hq3 zb hb3.size HD.out ?_; intro v6 w6 hown6 hgr6 _; have hbel6 : Below w.heap.size w3 w6 := hown3.grown_below hgr6 hb3.size; clear hgr6))
  go_ret
  exact ⟨v6, rfl, HOUT.out ▸ hown6, hb3.trans hbel6⟩
end Go.Proofs.YtffmfgbjlijpeaaDoor

namespace Go.Proofs.YtffmfgbjlijpeaaDoor
open Go.RowKit

theorem or_big24 (x y : Int) (x0 : 0 ≤ x) (x1 : x < 4294967296) (hx : x % 16777216 = 0) (y0 : 0 ≤ y) (y1 : y < 16777216) : bits .or .u32 x y = x + y := by
  rw [u32_or _ _ x0 x1 y0 (by omega)]
  have e : x.toNat = 2 ^ 24 * (x / 16777216).toNat := by omega
  rw [e, ← Nat.two_pow_add_eq_or_of_lt (show y.toNat < 2 ^ 24 by omega)]
  omega
theorem or_big16 (x y : Int) (x0 : 0 ≤ x) (x1 : x < 4294967296) (hx : x % 65536 = 0) (y0 : 0 ≤ y) (y1 : y < 65536) : bits .or .u32 x y = x + y := by
  rw [u32_or _ _ x0 x1 y0 (by omega)]
  have e : x.toNat = 2 ^ 16 * (x / 65536).toNat := by omega
  rw [e, ← Nat.two_pow_add_eq_or_of_lt (show y.toNat < 2 ^ 16 by omega)]
  omega
theorem or_big8 (x y : Int) (x0 : 0 ≤ x) (x1 : x < 4294967296) (hx : x % 256 = 0) (y0 : 0 ≤ y) (y1 : y < 256) : bits .or .u32 x y = x + y := by
  rw [u32_or _ _ x0 x1 y0 (by omega)]
  have e : x.toNat = 2 ^ 8 * (x / 256).toNat := by omega
  rw [e, ← Nat.two_pow_add_eq_or_of_lt (show y.toNat < 2 ^ 8 by omega)]
  omega
theorem four_at (xs : List Int) (n : Nat) (h : n + 4 ≤ xs.length) : (xs.drop n).take 4 = [xs[n], xs[n + 1], xs[n + 2], xs[n + 3]] := by
  rw [List.drop_eq_getElem_cons (by omega), List.drop_eq_getElem_cons (by omega), List.drop_eq_getElem_cons (by omega), List.drop_eq_getElem_cons (by omega)]
  rfl

set_option maxHeartbeats 1600000 in
theorem reffget_any (A : Option Addr) (xs : List Int) (c : Nat) (w : World) (hl : Lies .u8 w w.heap.size A xs) (hby : IsBytes xs) (hc : xs.length ≤ c) (hcm : c ≤ maxLen) :
    Calls Tryd.prog 48 #[.slice A xs.length c] w (TellsB (getFr xs) w) := by
  obtain ⟨i0, hi0, hz0, hz1, hz2⟩ := info_parts byte_info
  obtain ⟨R, hR⟩ : ∃ R, R = getFr xs := ⟨_, rfl⟩
  rw [← hR]
  have HR := Lib.hid hR
  clear hR
  have hg := refget_any A xs c w hl hby
  obtain ⟨x, k, e, hx⟩ : ∃ x k e, getR xs = (x, k, e) := ⟨_, _, _, rfl⟩
  rw [hx] at hg
  have HX := Lib.hid hx
  have HG := Lib.hid hg
  clear hx hg
  unfold maxLen at hcm
  by_cases he : e ≠ 0
  · have hb : (e != 0) = true := by simp [he]
    have hfin := Lib.hid (HR.out.trans (getFr_err HX.out he))
    clear he
    go_enter Tryd.func48, Tryd.ntmps48
    go_wp2_with fail
    refine HG.out.mono ?_
    rintro e w1 ⟨rfl, rfl⟩
    go_wp2
    go_ret3
    exact TellsB.nil hfin.out
  obtain rfl : e = 0 := by omega
  obtain ⟨len, n, rfl, rfl, hn1, hn10, hnl, hlen⟩ := getR_nats hby HX.out
  clear he
  by_cases hlong : 16777216 < len
  · have hfin := Lib.hid (HR.out.trans (getFr_long HX.out (by omega)))
    have h1 : (16777216 : Int) < (len : Int) := by omega
    go_enter Tryd.func48, Tryd.ntmps48
    go_wp2_with fail
    refine HG.out.mono ?_
    rintro e w1 ⟨rfl, rfl⟩
    go_wp2
    go_ret3
    exact TellsB.nil hfin.out
  have h1 : ¬ (16777216 : Int) < (len : Int) := by omega
  by_cases hshort : xs.length < n + 4 + len
  · have hfin := Lib.hid (HR.out.trans (getFr_short HX.out (by omega) (by omega)))
    have h2 : (xs.length : Int) - (n : Int) - 4 < (len : Int) := by omega
    go_enter Tryd.func48, Tryd.ntmps48
    go_wp2_with fail
    refine HG.out.mono ?_
    rintro e w1 ⟨rfl, rfl⟩
    go_wp2
    go_ret3
    exact TellsB.nil hfin.out
  have h2 : ¬ (xs.length : Int) - (n : Int) - 4 < (len : Int) := by omega
  obtain ⟨b, off, rfl, hbl, hcell⟩ := hl (by rintro rfl; simp at hshort)
  have c0 := hcell n (by omega)
  have c1 := hcell (n + 1) (by omega)
  have c2 := hcell (n + 2) (by omega)
  have c3 := hcell (n + 3) (by omega)
  have b0 := hby.at_ (show n < xs.length by omega)
  have b1 := hby.at_ (show n + 1 < xs.length by omega)
  have b2 := hby.at_ (show n + 2 < xs.length by omega)
  have b3 := hby.at_ (show n + 3 < xs.length by omega)
  have h4 := four_at xs n (by omega)
  generalize xs[n]'(by omega) = q0 at c0 b0 h4
  generalize xs[n + 1]'(by omega) = q1 at c1 b1 h4
  generalize xs[n + 2]'(by omega) = q2 at c2 b2 h4
  generalize xs[n + 3]'(by omega) = q3 at c3 b3 h4
  have hsq : sumOf ((xs.drop n).take 4) = q0 * 16777216 + q1 * 65536 + q2 * 256 + q3 := by
    rw [h4]
    simp only [sumOf, List.foldl_cons, List.foldl_nil]
    omega
  obtain ⟨b00, b01⟩ := b0
  obtain ⟨b10, b11⟩ := b1
  obtain ⟨b20, b21⟩ := b2
  obtain ⟨b30, b31⟩ := b3
  have o1 := or_big24 (q0 * 16777216) (q1 * 65536) (by omega) (by omega) (by omega) (by omega) (by omega)
  have o2 := or_big16 (q0 * 16777216 + q1 * 65536) (q2 * 256) (by omega) (by omega) (by omega) (by omega) (by omega)
  have o3 := or_big8 (q0 * 16777216 + q1 * 65536 + q2 * 256) q3 (by omega) (by omega) (by omega) (by omega) (by omega)
  have HSQ := Lib.hid hsq
  clear hcell h4 hsq
  have l0 : n < xs.length := by omega
  have l1 : n + 1 < xs.length := by omega
  have l2 : n + 2 < xs.length := by omega
  have l3 : n + 3 < xs.length := by omega
  go_enter Tryd.func48, Tryd.ntmps48
  go_wp2_with fail
  refine HG.out.mono ?_
  rintro e w1 ⟨rfl, rfl⟩
  go_wp2_with fail
  go_quiet (fail)
  obtain ⟨r2, hr2⟩ : ∃ r2, q0 * 16777216 + q1 * 65536 + q2 * 256 + q3 = r2 := ⟨_, rfl⟩
  have HS2 := Lib.hid (HSQ.out.trans hr2)
  rw [hr2]
  clear hr2 HSQ o1 o2 o3 c0 c1 c2 c3 l0 l1 l2 l3 b00 b01 b10 b11 b20 b21 b30 b31
  have hPl : ((xs.drop (n + 4)).take len).length = len := by rw [List.length_take, List.length_drop]; omega
  have hLP : Lies .u8 w w.heap.size (if c = n + 4 then some ⟨b, off, none⟩ else some ⟨b, off + (n + 4), none⟩) ((xs.drop (n + 4)).take len) := by
    have := (hl.cut (n := n + 4) hc).take len
    simpa [add_lit] using this
  have hbP : IsBytes ((xs.drop (n + 4)).take len) := fun q hq => hby q (List.mem_of_mem_drop (List.mem_of_mem_take hq))
  have hfin : (((moreN 0 ((xs.drop (n + 4)).take len) : Nat) : Int) ≠ r2 → R = ([], 0, 5)) ∧ (((moreN 0 ((xs.drop (n + 4)).take len) : Nat) : Int) = r2 → R = ((xs.drop (n + 4)).take len, (n : Int) + 4 + (len : Int), 0)) := by
    have e := HS2.out
    have hln : len ≤ 16777216 := by omega
    have hnl : n + 4 + len ≤ xs.length := by omega
    have e2 : (n : Int) + 4 + (len : Int) = ((n + 4 + len : Nat) : Int) := by omega
    rw [e2]
    exact ⟨fun h => HR.out.trans (getFr_sum HX.out hln hnl (by rw [e]; exact h)), fun h => HR.out.trans (getFr_ok HX.out hln hnl (by rw [e]; exact h))⟩
  obtain ⟨P, hPE⟩ : ∃ P, (xs.drop (n + 4)).take len = P := ⟨_, rfl⟩
  rw [hPE] at hfin hPl hLP hbP
  obtain ⟨r1, hr1⟩ : ∃ r, moreN 0 P = r := ⟨_, rfl⟩
  rw [hr1] at hfin
  have HR1 := Lib.hid hr1
  have HF := Lib.hid hfin
  have HPL := Lib.hid hPl
  have HLP := Lib.hid hLP
  have HBP := Lib.hid hbP
  clear hfin hPl hLP hPE hr1 hbP HS2
  have htc : n + 4 + len ≤ c := by omega
  have htc2 : (n : Int) + 4 + (len : Int) ≤ (c : Int) := by omega
  have hft : n + 4 ≤ n + 4 + len := by omega
  have hft2 : (n : Int) + 4 ≤ (n : Int) + 4 + (len : Int) := by omega
  by_cases hs : (r1 : Int) = r2
  · have hsb : ((r1 : Int) != r2) = false := by simp [hs]
    have hR := Lib.hid (HF.out.2 hs)
    clear hs HF
    go_wp2_with fail
    case inl h =>
      have hlp := HLP.out
      rw [if_pos h] at hlp
      have hsum := refsum_any (some ⟨b, off, none⟩) P 0 (w.drewN nq) hlp HBP.out (by rw [HPL.out]; simp only [maxLen]; omega)
      rw [HPL.out, HR1.out] at hsum
      refine hsum.mono ?_
      rintro e w1 ⟨rfl, rfl⟩
      clear hsum
      go_wp2_with (at_builtin; refine wpList_append_ints rfl (.const (.slice none 0 0)) (.tmp 71) 33 rfl w.heap.size 5 .u8 i0 1 Tryd.underlying33 hi0 hz0 hz1 hz2 (by decide) (.slice none 0 0) [] rfl Own.nil w.heap.size (some ⟨b, off, none⟩) len 0 P rfl HPL.out (by omega) hlp (by rw [HPL.out]; simp; omega) (Nat.le_refl _) (by simp) ?_; intro v2 w2 hown2 hgr2 _; rw [List.nil_append] at hown2; have hb2 : Below w.heap.size (w.drewN nq) w2 := (Own.nil (k := .u8) (e := 5) (w := w.drewN nq) (base := w.heap.size)).grown_below hgr2 (Nat.le_refl _); clear hgr2)
      go_ret3
      exact TellsB.mk hR.out hown2 (below_undrewN hb2)
    case inr h =>
      have hlp := HLP.out
      rw [if_neg h] at hlp
      have hsum := refsum_any (some ⟨b, off + (n + 4), none⟩) P (c - (n + 4)) (w.drewN nq) hlp HBP.out (by rw [HPL.out]; simp only [maxLen]; omega)
      rw [HPL.out, HR1.out] at hsum
      refine hsum.mono ?_
      rintro e w1 ⟨rfl, rfl⟩
      clear hsum
      go_wp2_with (at_builtin; refine wpList_append_ints rfl (.const (.slice none 0 0)) (.tmp 71) 33 rfl w.heap.size 5 .u8 i0 1 Tryd.underlying33 hi0 hz0 hz1 hz2 (by decide) (.slice none 0 0) [] rfl Own.nil w.heap.size (some ⟨b, off + (n + 4), none⟩) len (c - (n + 4)) P rfl HPL.out (by omega) hlp (by rw [HPL.out]; simp; omega) (Nat.le_refl _) (by simp) ?_; intro v2 w2 hown2 hgr2 _; rw [List.nil_append] at hown2; have hb2 : Below w.heap.size (w.drewN nq) w2 := (Own.nil (k := .u8) (e := 5) (w := w.drewN nq) (base := w.heap.size)).grown_below hgr2 (Nat.le_refl _); clear hgr2)
      go_ret3
      exact TellsB.mk hR.out hown2 (below_undrewN hb2)
  · have hsb : ((r1 : Int) != r2) = true := by simp [hs]
    have hR := Lib.hid (HF.out.1 hs)
    clear hs HF
    go_wp2_with fail
    case inl h =>
      have hlp := HLP.out
      rw [if_pos h] at hlp
      have hsum := refsum_any (some ⟨b, off, none⟩) P 0 (w.drewN nq) hlp HBP.out (by rw [HPL.out]; simp only [maxLen]; omega)
      rw [HPL.out, HR1.out] at hsum
      refine hsum.mono ?_
      rintro e w1 ⟨rfl, rfl⟩
      clear hsum
      go_wp2
      go_ret3
      exact TellsB.drew hR.out
    case inr h =>
      have hlp := HLP.out
      rw [if_neg h] at hlp
      have hsum := refsum_any (some ⟨b, off + (n + 4), none⟩) P (c - (n + 4)) (w.drewN nq) hlp HBP.out (by rw [HPL.out]; simp only [maxLen]; omega)
      rw [HPL.out, HR1.out] at hsum
      refine hsum.mono ?_
      rintro e w1 ⟨rfl, rfl⟩
      clear hsum
      go_wp2
      go_ret3
      exact TellsB.drew hR.out
end Go.Proofs.YtffmfgbjlijpeaaDoor
