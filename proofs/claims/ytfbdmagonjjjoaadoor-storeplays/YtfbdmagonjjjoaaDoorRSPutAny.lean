/- A contract of the document's own Put, of a store. -/
import Derived.Test.YtfbdmagonjjjoaaDoorRSPut
namespace Go.Proofs.YtfbdmagonjjjoaaDoor
open Go.RowKit

theorem stockM_bad {room : Int} {l : List FileM} {n : ByteArray} {b : List Int} (h : validS n = false) : putM room l n b = (l, 6) := by unfold putM; rw [if_pos h]
section
variable {base : Nat} {S : Nat → Prop} {w : World} {p : Nat} {room : Int} {fs : List FileV} {bad : List Int}
set_option maxHeartbeats 6400000 in
set_option maxRecDepth 4000 in
theorem osput_core (hR : RStore base S w p room fs bad) (n : ByteArray) (hn : n.size ≤ maxLen) (B : Option Addr) (ys : List Int) (cb : Nat) (hbl : bad.length ≤ 1000000) (hlen : fs.length ≤ 1000000000) (hr0 : 0 ≤ room) (hr1 : room ≤ 9223372036854775807) (hu : usedM (filesOf fs) ≤ 1099511627776) (hys : IsBytes ys)
    (hl : LiesOff S w B ys) (hB : B = none → cb = 0) (hcb : ys.length ≤ cb) (hyl : ys.length ≤ 549755813888) (hv : validS n = true) (k0 : Int) (hk0 : bad.headD 0 = k0) (hk02 : k0 = 0 ∨ k0 = 2) (r : List FileM × Int)
    (hr : r = if room - ((usedM (filesOf fs) : Int) - ((ofName (filesOf fs) n).b.length : Int)) < (ys.length : Int) then (filesOf fs, 7) else (layF (filesOf fs) ⟨n, ys, 0⟩, if k0 = 2 then 9 else 0)) :
    Calls Tryd.prog 19 #[.pointer (some ⟨p, 0, none⟩), .string n, .slice B ys.length cb] w (ODoes base S p room bad.tail r w) := by
  have HT := Lib.hid (osfault_any hR hbl)
  have HV := Lib.hid (fun W => refvalid_any n W hn)
  have HFD := Lib.hid (fun (w1 : World) (hL : OLeft base S w w1 p room fs bad.tail) => osfind_any base _ w1 p room fs bad.tail n hL.store)
  have HTD := Lib.hid (fun W => told_any k0 0 W)
  rw [told_0] at HTD
  rw [hk0] at HT
  rw [hv] at HV
  have huu := usedBut_all (filesOf fs) n
  have hkk : hasF (filesOf fs) n = true → findK (filesOf fs) n < (filesOf fs).length := fun h => hasF_lt h
  have htt : tailK (filesOf fs) n = if hasF (filesOf fs) n = true then findK (filesOf fs) n + 1 else findK (filesOf fs) n := rfl
  have hlay : ∀ x2, filesOf (fs.take (findK (filesOf fs) n) ++ [(⟨n, ys, 0⟩, x2)] ++ fs.drop (tailK (filesOf fs) n)) = layF (filesOf fs) ⟨n, ys, 0⟩ := fun x2 => by
    unfold layF filesOf
    rw [List.map_append, List.map_append, List.map_take, List.map_drop]
    simp
  have hkl : findK (filesOf fs) n ≤ fs.length := by rw [← filesOf_length fs]; exact findK_le _ _
  have htl : tailK (filesOf fs) n ≤ fs.length := by rw [← filesOf_length fs]; exact tailK_le _ _
  rw [← huu] at hr
  obtain ⟨lo, hlo⟩ : ∃ lo, filesOf fs = lo := ⟨_, rfl⟩
  have HLO := Lib.hid (show lo.length = fs.length by rw [← hlo]; exact filesOf_length fs)
  have HLF := Lib.hid hlo
  rw [hlo] at HFD huu hkk htt hlay hkl htl hr hu
  obtain ⟨K, hK⟩ : ∃ K, findK lo n = K := ⟨_, rfl⟩
  obtain ⟨tl, htle⟩ : ∃ tl, tailK lo n = tl := ⟨_, rfl⟩
  obtain ⟨H, hH⟩ : ∃ H, hasF lo n = H := ⟨_, rfl⟩
  rw [hK, hH] at HFD hkk
  rw [hK, htle] at hlay
  rw [hK, htle, hH] at htt
  rw [hK] at hkl
  rw [htle] at htl
  rw [hK, hH] at hr
  rw [HLO.out] at hr
  obtain ⟨U, hU⟩ : ∃ U, usedBut lo H K fs.length = U := ⟨_, rfl⟩
  rw [hU] at hr
  have HUU := Lib.hid hU
  have hUl : U ≤ 1099511627776 := by rw [← hU]; exact Nat.le_trans (usedBut_le _ _ _ _) hu
  have HKK := Lib.hid hkk
  obtain ⟨err, herr⟩ : ∃ e : Int, (if k0 = 2 then (9 : Int) else 0) = e := ⟨_, rfl⟩
  rw [herr] at HTD hr
  have HLAY : Hid (∀ fs', fs' = fs → ∀ x2, filesOf (fs'.take K ++ [(⟨n, ys, 0⟩, x2)] ++ fs'.drop tl) = layF lo ⟨n, ys, 0⟩) := Lib.hid fun fs' e x2 => by rw [e]; exact hlay x2
  have HRW := Lib.hid (fun (w1 : World) (hL : OLeft base S w w1 p room fs bad.tail) (m : Nat) => osput_row (hL.store.drewN m) hlen K tl hkl htl (by rw [htt]; split <;> omega) n hn ys hys)
  have HRM : Hid (∀ w1, OLeft base S w w1 p room fs bad.tail → ∀ m, (w1.drewN m).cell? ⟨p, 0, none⟩ = some (.int .i64 room)) := Lib.hid fun w1 hL m => by
    obtain ⟨_, _, _, _, e0, _⟩ := (hL.store.drewN m).cells
    exact e0
  have HOBJ : Hid (∀ w1, OLeft base S w w1 p room fs bad.tail → ∀ m A c, (w1.drewN m).cell? ⟨p, 1, none⟩ = some (.slice A fs.length c) → ∀ i (h : i < fs.length), ∃ g off Ax bl cx, A = some ⟨g, off, none⟩ ∧ (w1.drewN m).cell? ⟨g, off + i * 2 + 1, none⟩ = some (.slice Ax bl cx) ∧ (lo[i]'(by rw [HLO.out]; exact h)).b.length = bl) := Lib.hid fun w1 hL m A c hA i h => by
    obtain ⟨A2, c2, _, _, _, e1, _, _, _, _, e2, _⟩ := (hL.store.drewN m).cells
    rw [hA] at e1
    injection e1 with e1
    injection e1 with e1 _ _
    obtain ⟨g, off, hA2, hg, hat⟩ := e2 (by rintro rfl; simp at h)
    obtain ⟨_, _, _, _, _, hrow, _⟩ := hL.store.drewN m
    obtain ⟨Ax, cx, hv2, _⟩ := (hrow.2.2 fs[i] (List.getElem_mem h)).1
    have h2 := (hat i h).2
    rw [hv2] at h2
    refine ⟨g, off, Ax, _, cx, e1.trans hA2, h2, ?_⟩
    have : lo[i]'(by rw [HLO.out]; exact h) = fs[i].1 := by
      subst hlo
      exact filesOf_at fs i h
    rw [this]
  have HBY : Hid (∀ w1, OLeft base S w w1 p room fs bad.tail → ∀ m W, Below (w1.drewN m).heap.size (w1.drewN m) W → ∀ ty, ∃ A' c' w2, (Builtin.append_ #[32, 32] ty #[.slice none 0 0, .slice B ys.length cb]).run Tryd.prog W = .ok (.slice A' ys.length c') w2 ∧ Own .u8 5 w2 W.heap.size (.slice A' ys.length c') ys ∧ Below W.heap.size W w2) := Lib.hid fun w1 hL m W hb ty => by
    have h1 := (hl.keep hL.keep).lies
    have h2 : Lies .u8 (w1.drewN m) (w1.drewN m).heap.size B ys := h1
    exact new_bytes (h2.below hb) hB hcb hyl ty
  have HTK := Lib.hid (show (fs.take K).length = K by rw [List.length_take]; omega)
  have HN3 := Lib.hid (fun x : FileV => show (fs.take K ++ [x]).length = K + 1 by rw [List.length_append, HTK.out]; rfl)
  have HW := Lib.hid hR.1
  have hw1 : wrap64 (room - (U : Int)) = room - (U : Int) := by unfold wrap64; omega
  obtain ⟨L, hLe⟩ : ∃ L, ys.length = L := ⟨_, rfl⟩
  have HFULL : Hid (room - (U : Int) < (L : Int) → r = (lo, 7)) := Lib.hid fun h => by rw [hr, hLe, if_pos h]
  have HFIT : Hid (¬ room - (U : Int) < (L : Int) → r = (layF lo ⟨n, ys, 0⟩, err)) := Lib.hid fun h => by rw [hr, hLe, if_neg h]
  rw [hLe] at HRW HBY ⊢
  have hk9 : K ≤ 1000000000 := by omega
  have htl9 : tl ≤ 1000000000 := by omega
  have htlI : tl ≤ fs.length := htl
  generalize bad.tail = bt at *
  have hll : lo.length = fs.length := HLO.out
  clear hR hn hbl hk0 hv hl hB hcb hyl hys hr hU huu hkk hlay hlo hK htle hH herr hLe hll
  cases H with
  | false =>
    have hkq : K = tl := htt.symm
    clear htt
    subst hkq
    rcases hk02 with rfl | rfl
    · go_enter Tryd.func19, Tryd.ntmps19
      go_wp2_with fail
      refine HT.out.mono ?_
      rintro e w1 ⟨rfl, hL⟩
      go_wp2_with fail
      refine (HV.out _).mono ?_
      rintro e w2 ⟨rfl, rfl⟩
      have HFN := Lib.hid (HFD.out w1 hL)
      go_wp2_with fail
      refine HFN.out.mono ?_
      rintro e w2 ⟨rfl, m, rfl⟩
      obtain ⟨A, A', c, hce, hcc, hcm, hap1, hap2, hslc, hap3⟩ := HRW.out w1 hL m
      have d1 := hce _ (Below.refl _ _)
      have dr := HRM.out w1 hL m
      have HOB := Lib.hid (HOBJ.out w1 hL m A c d1)
      have HAPB := Lib.hid (HBY.out w1 hL m)
      have HCE := Lib.hid hce
      have HAP1 := Lib.hid hap1
      have HAP2 := Lib.hid hap2
      have HAP3 := Lib.hid hap3
      unfold maxLen at hcm
      clear hce hap1 hap2 hap3 HRW HRM HOBJ HBY HFD HFN HV HT
      generalize hWg : w1.drewN m = W at *
      have hkc := Nat.le_trans hkl hcc
      have HCC := Lib.hid hcc
      clear hcc
      go_wp2_with fail
      go_loop [10, 11] (fun uv iv => ∃ i u : Nat, iv = .int .i64 i ∧ i ≤ fs.length ∧ uv = .int .i64 u ∧ u = usedBut lo false K i) (fun _ iv => fs.length - (intOf iv).toNat)
      case atStart => exact ⟨0, 0, rfl, Nat.zero_le _, rfl, (by unfold usedBut; rw [if_neg (by omega)]; rfl)⟩
      case round =>
        obtain ⟨i, u, rfl, hi, rfl, hue⟩ := hrel
        by_cases hlt : i < fs.length
        · rw [hue]
          clear hue
          have HST := Lib.hid (usedBut_step lo false K i (by rw [HLO.out]; exact hlt) (by simp))
          have hle := usedBut_le lo false K (i + 1)
          obtain ⟨g, off, Ax, bl, cx, hAg, d3, hbl⟩ := HOB.out i hlt
          subst hAg
          rw [if_pos (Or.inl rfl), hbl] at HST
          rw [HST.out] at hle
          generalize usedBut lo false K i = u at *
          clear hbl
          go_wp2
          go_round
          case rel => exact ⟨i + 1, u + bl, by go_num, hlt, by go_num, HST.out.symm⟩
          case measure => simp [intOf]; omega
        · have HUF := Lib.hid hue
          obtain rfl : i = fs.length := by omega
          have hue2 : u = U := hue.trans HUU.out
          subst hue2
          clear hue
          by_cases hfull : room - (u : Int) < (L : Int)
          · have hfd : decide (room - (u : Int) < (L : Int)) = true := decide_eq_true hfull
            have HRF := Lib.hid (HFULL.out hfull)
            clear hfull
            go_wp2
            go_ret
            rw [HRF.out]
            exact ⟨rfl, fs, HLF.out, hL.more HW.out (by rw [← hWg]; exact below_drewN (Below.refl _ _) m)⟩
          · have hfd : decide (room - (u : Int) < (L : Int)) = false := decide_eq_false hfull
            have HRF := Lib.hid (HFIT.out (Int.not_lt.1 hfull))
            clear hfull
            clear HUF HUU HFULL HKK HOB HLO hUl hu
            go_wp2_with (at_builtin; obtain ⟨v5, w5, hr5, hn5⟩ := HAP1.out 49; refine wpList_append_run rfl (.const (.slice none 0 0)) (.tmp 76) 49 rfl _ _ rfl rfl _ w5 hr5 ?_; obtain ⟨A5, c5, h5e, _⟩ := row_form3 hn5.1; rw [HTK.out] at h5e; subst h5e; refine Hid.out ?_)
            refine Lib.hid ?_
            have HN5 := Lib.hid hn5
            clear hr5 hn5 hfd hw1 d1
            go_wp2_with (at_builtin; obtain ⟨Ay, cy, w6, hr6, hoy, hb6⟩ := HAPB.out w5 HN5.out.2 32; refine wpList_append_run rfl (.const (.slice none 0 0)) (.tmp 79) 32 rfl _ _ rfl rfl _ w6 hr6 ?_; refine Hid.out ?_)
            refine Lib.hid ?_
            have HA2 := Lib.hid (HAP2.out w5 w6 _ Ay cy HN5.out hb6 hoy)
            clear hr6 hoy hb6 HN5
            go_wp2_with (at_builtin; obtain ⟨v3, w3, hr3, hn3, hoy3⟩ := HA2.out 49; refine wpList_append_run rfl (.tmp 77) (.tmp 82) 49 rfl _ _ rfl rfl _ w3 hr3 ?_; obtain ⟨A3, c3, h3e, _⟩ := row_form3 hn3.1; rw [HN3.out] at h3e; subst h3e; refine Hid.out ?_)
            refine Lib.hid ?_
            have e3 := HCE.out _ hn3.2
            have HA3 := Lib.hid (HAP3.out w3 _ Ay cy hn3 hoy3)
            clear hr3 hn3 hoy3 HA2
            go_wp2_with (at_builtin; obtain ⟨A4, L4, c4, w4, hr4, z4, e4, FIN⟩ := HA3.out 49; refine wpList_append_run rfl (.tmp 85) (.tmp 91) 49 rfl _ _ rfl rfl _ w4 hr4 ?_; have FN := Lib.hid FIN; clear FIN hr4)
            refine (HTD.out _).mono ?_
            rintro e w9 ⟨rfl, rfl⟩
            go_wp2
            go_ret
            rw [HRF.out]
            exact ⟨rfl, _, HLAY.out _ rfl _, OLeft.trans HW.out hL.keep (OLeft.behind (by rw [← hWg]; exact below_drewN (Below.refl _ _) m) FN.out hL.store.1)⟩
    · go_enter Tryd.func19, Tryd.ntmps19
      go_wp2_with fail
      refine HT.out.mono ?_
      rintro e w1 ⟨rfl, hL⟩
      go_wp2_with fail
      refine (HV.out _).mono ?_
      rintro e w2 ⟨rfl, rfl⟩
      have HFN := Lib.hid (HFD.out w1 hL)
      go_wp2_with fail
      refine HFN.out.mono ?_
      rintro e w2 ⟨rfl, m, rfl⟩
      obtain ⟨A, A', c, hce, hcc, hcm, hap1, hap2, hslc, hap3⟩ := HRW.out w1 hL m
      have d1 := hce _ (Below.refl _ _)
      have dr := HRM.out w1 hL m
      have HOB := Lib.hid (HOBJ.out w1 hL m A c d1)
      have HAPB := Lib.hid (HBY.out w1 hL m)
      have HCE := Lib.hid hce
      have HAP1 := Lib.hid hap1
      have HAP2 := Lib.hid hap2
      have HAP3 := Lib.hid hap3
      unfold maxLen at hcm
      clear hce hap1 hap2 hap3 HRW HRM HOBJ HBY HFD HFN HV HT
      generalize hWg : w1.drewN m = W at *
      have hkc := Nat.le_trans hkl hcc
      have HCC := Lib.hid hcc
      clear hcc
      go_wp2_with fail
      go_loop [10, 11] (fun uv iv => ∃ i u : Nat, iv = .int .i64 i ∧ i ≤ fs.length ∧ uv = .int .i64 u ∧ u = usedBut lo false K i) (fun _ iv => fs.length - (intOf iv).toNat)
      case atStart => exact ⟨0, 0, rfl, Nat.zero_le _, rfl, (by unfold usedBut; rw [if_neg (by omega)]; rfl)⟩
      case round =>
        obtain ⟨i, u, rfl, hi, rfl, hue⟩ := hrel
        by_cases hlt : i < fs.length
        · rw [hue]
          clear hue
          have HST := Lib.hid (usedBut_step lo false K i (by rw [HLO.out]; exact hlt) (by simp))
          have hle := usedBut_le lo false K (i + 1)
          obtain ⟨g, off, Ax, bl, cx, hAg, d3, hbl⟩ := HOB.out i hlt
          subst hAg
          rw [if_pos (Or.inl rfl), hbl] at HST
          rw [HST.out] at hle
          generalize usedBut lo false K i = u at *
          clear hbl
          go_wp2
          go_round
          case rel => exact ⟨i + 1, u + bl, by go_num, hlt, by go_num, HST.out.symm⟩
          case measure => simp [intOf]; omega
        · have HUF := Lib.hid hue
          obtain rfl : i = fs.length := by omega
          have hue2 : u = U := hue.trans HUU.out
          subst hue2
          clear hue
          by_cases hfull : room - (u : Int) < (L : Int)
          · have hfd : decide (room - (u : Int) < (L : Int)) = true := decide_eq_true hfull
            have HRF := Lib.hid (HFULL.out hfull)
            clear hfull
            go_wp2
            go_ret
            rw [HRF.out]
            exact ⟨rfl, fs, HLF.out, hL.more HW.out (by rw [← hWg]; exact below_drewN (Below.refl _ _) m)⟩
          · have hfd : decide (room - (u : Int) < (L : Int)) = false := decide_eq_false hfull
            have HRF := Lib.hid (HFIT.out (Int.not_lt.1 hfull))
            clear hfull
            clear HUF HUU HFULL HKK HOB HLO hUl hu
            go_wp2_with (at_builtin; obtain ⟨v5, w5, hr5, hn5⟩ := HAP1.out 49; refine wpList_append_run rfl (.const (.slice none 0 0)) (.tmp 76) 49 rfl _ _ rfl rfl _ w5 hr5 ?_; obtain ⟨A5, c5, h5e, _⟩ := row_form3 hn5.1; rw [HTK.out] at h5e; subst h5e; refine Hid.out ?_)
            refine Lib.hid ?_
            have HN5 := Lib.hid hn5
            clear hr5 hn5 hfd hw1 d1
            go_wp2_with (at_builtin; obtain ⟨Ay, cy, w6, hr6, hoy, hb6⟩ := HAPB.out w5 HN5.out.2 32; refine wpList_append_run rfl (.const (.slice none 0 0)) (.tmp 79) 32 rfl _ _ rfl rfl _ w6 hr6 ?_; refine Hid.out ?_)
            refine Lib.hid ?_
            have HA2 := Lib.hid (HAP2.out w5 w6 _ Ay cy HN5.out hb6 hoy)
            clear hr6 hoy hb6 HN5
            go_wp2_with (at_builtin; obtain ⟨v3, w3, hr3, hn3, hoy3⟩ := HA2.out 49; refine wpList_append_run rfl (.tmp 77) (.tmp 82) 49 rfl _ _ rfl rfl _ w3 hr3 ?_; obtain ⟨A3, c3, h3e, _⟩ := row_form3 hn3.1; rw [HN3.out] at h3e; subst h3e; refine Hid.out ?_)
            refine Lib.hid ?_
            have e3 := HCE.out _ hn3.2
            have HA3 := Lib.hid (HAP3.out w3 _ Ay cy hn3 hoy3)
            clear hr3 hn3 hoy3 HA2
            go_wp2_with (at_builtin; obtain ⟨A4, L4, c4, w4, hr4, z4, e4, FIN⟩ := HA3.out 49; refine wpList_append_run rfl (.tmp 85) (.tmp 91) 49 rfl _ _ rfl rfl _ w4 hr4 ?_; have FN := Lib.hid FIN; clear FIN hr4)
            refine (HTD.out _).mono ?_
            rintro e w9 ⟨rfl, rfl⟩
            go_wp2
            go_ret
            rw [HRF.out]
            exact ⟨rfl, _, HLAY.out _ rfl _, OLeft.trans HW.out hL.keep (OLeft.behind (by rw [← hWg]; exact below_drewN (Below.refl _ _) m) FN.out hL.store.1)⟩
  | true =>
    have hkt2 : (K : Int) + 1 = (tl : Int) := by have h : tl = K + 1 := htt; omega
    have hkt3 : K + 1 = tl := htt.symm
    clear htt
    rcases hk02 with rfl | rfl
    · go_enter Tryd.func19, Tryd.ntmps19
      go_wp2_with fail
      refine HT.out.mono ?_
      rintro e w1 ⟨rfl, hL⟩
      go_wp2_with fail
      refine (HV.out _).mono ?_
      rintro e w2 ⟨rfl, rfl⟩
      have HFN := Lib.hid (HFD.out w1 hL)
      go_wp2_with fail
      refine HFN.out.mono ?_
      rintro e w2 ⟨rfl, m, rfl⟩
      obtain ⟨A, A', c, hce, hcc, hcm, hap1, hap2, hslc, hap3⟩ := HRW.out w1 hL m
      have d1 := hce _ (Below.refl _ _)
      have dr := HRM.out w1 hL m
      have HOB := Lib.hid (HOBJ.out w1 hL m A c d1)
      have HAPB := Lib.hid (HBY.out w1 hL m)
      have HCE := Lib.hid hce
      have HAP1 := Lib.hid hap1
      have HAP2 := Lib.hid hap2
      have HAP3 := Lib.hid hap3
      unfold maxLen at hcm
      clear hce hap1 hap2 hap3 HRW HRM HOBJ HBY HFD HFN HV HT
      generalize hWg : w1.drewN m = W at *
      have hkc := Nat.le_trans hkl hcc
      have HCC := Lib.hid hcc
      clear hcc
      go_wp2_with fail
      go_loop [10, 11] (fun uv iv => ∃ i u : Nat, iv = .int .i64 i ∧ i ≤ fs.length ∧ uv = .int .i64 u ∧ u = usedBut lo true K i) (fun _ iv => fs.length - (intOf iv).toNat)
      case atStart => exact ⟨0, 0, rfl, Nat.zero_le _, rfl, (by unfold usedBut; rw [if_neg (by omega)]; rfl)⟩
      case round =>
        obtain ⟨i, u, rfl, hi, rfl, hue⟩ := hrel
        by_cases hlt : i < fs.length
        · rw [hue]
          clear hue
          have HST := Lib.hid (usedBut_step lo true K i (by rw [HLO.out]; exact hlt) (by simpa using HKK.out))
          have hle := usedBut_le lo true K (i + 1)
          obtain ⟨g, off, Ax, bl, cx, hAg, d3, hbl⟩ := HOB.out i hlt
          subst hAg
          by_cases hiK : i = K
          · rw [if_neg (by simp [hiK])] at HST
            have q1 : (((i : Nat) : Int) != ((K : Nat) : Int)) = false := by simp [hiK]
            have q2 : (i != K) = false := by simp [hiK]
            generalize usedBut lo true K i = u at *
            clear hbl hle
            go_wp2
            go_round
            case rel => exact ⟨i + 1, u, by go_num, hlt, rfl, HST.out.symm⟩
            case measure => simp [intOf]; omega
          · rw [if_pos (Or.inr hiK), hbl] at HST
            rw [HST.out] at hle
            have q1 : (((i : Nat) : Int) != ((K : Nat) : Int)) = true := by simp; omega
            have q2 : (i != K) = true := by simpa using hiK
            generalize usedBut lo true K i = u at *
            clear hbl
            go_wp2
            go_round
            case rel => exact ⟨i + 1, u + bl, by go_num, hlt, by go_num, HST.out.symm⟩
            case measure => simp [intOf]; omega
        · have HUF := Lib.hid hue
          obtain rfl : i = fs.length := by omega
          have hue2 : u = U := hue.trans HUU.out
          subst hue2
          clear hue
          by_cases hfull : room - (u : Int) < (L : Int)
          · have hfd : decide (room - (u : Int) < (L : Int)) = true := decide_eq_true hfull
            have HRF := Lib.hid (HFULL.out hfull)
            clear hfull
            go_wp2
            go_ret
            rw [HRF.out]
            exact ⟨rfl, fs, HLF.out, hL.more HW.out (by rw [← hWg]; exact below_drewN (Below.refl _ _) m)⟩
          · have hfd : decide (room - (u : Int) < (L : Int)) = false := decide_eq_false hfull
            have HRF := Lib.hid (HFIT.out (Int.not_lt.1 hfull))
            clear hfull
            clear HUF HUU HFULL HKK HOB HLO hUl hu
            go_wp2_with (at_builtin; obtain ⟨v5, w5, hr5, hn5⟩ := HAP1.out 49; refine wpList_append_run rfl (.const (.slice none 0 0)) (.tmp 76) 49 rfl _ _ rfl rfl _ w5 hr5 ?_; obtain ⟨A5, c5, h5e, _⟩ := row_form3 hn5.1; rw [HTK.out] at h5e; subst h5e; refine Hid.out ?_)
            refine Lib.hid ?_
            have HN5 := Lib.hid hn5
            clear hr5 hn5 hfd hw1 d1 hkt2 hkt3
            go_wp2_with (at_builtin; obtain ⟨Ay, cy, w6, hr6, hoy, hb6⟩ := HAPB.out w5 HN5.out.2 32; refine wpList_append_run rfl (.const (.slice none 0 0)) (.tmp 79) 32 rfl _ _ rfl rfl _ w6 hr6 ?_; refine Hid.out ?_)
            refine Lib.hid ?_
            have HA2 := Lib.hid (HAP2.out w5 w6 _ Ay cy HN5.out hb6 hoy)
            clear hr6 hoy hb6 HN5
            go_wp2_with (at_builtin; obtain ⟨v3, w3, hr3, hn3, hoy3⟩ := HA2.out 49; refine wpList_append_run rfl (.tmp 77) (.tmp 82) 49 rfl _ _ rfl rfl _ w3 hr3 ?_; obtain ⟨A3, c3, h3e, _⟩ := row_form3 hn3.1; rw [HN3.out] at h3e; subst h3e; refine Hid.out ?_)
            refine Lib.hid ?_
            have e3 := HCE.out _ hn3.2
            have HA3 := Lib.hid (HAP3.out w3 _ Ay cy hn3 hoy3)
            clear hr3 hn3 hoy3 HA2
            go_wp2_with (at_builtin; obtain ⟨A4, L4, c4, w4, hr4, z4, e4, FIN⟩ := HA3.out 49; refine wpList_append_run rfl (.tmp 85) (.tmp 91) 49 rfl _ _ rfl rfl _ w4 hr4 ?_; have FN := Lib.hid FIN; clear FIN hr4)
            refine (HTD.out _).mono ?_
            rintro e w9 ⟨rfl, rfl⟩
            go_wp2
            go_ret
            rw [HRF.out]
            exact ⟨rfl, _, HLAY.out _ rfl _, OLeft.trans HW.out hL.keep (OLeft.behind (by rw [← hWg]; exact below_drewN (Below.refl _ _) m) FN.out hL.store.1)⟩
    · go_enter Tryd.func19, Tryd.ntmps19
      go_wp2_with fail
      refine HT.out.mono ?_
      rintro e w1 ⟨rfl, hL⟩
      go_wp2_with fail
      refine (HV.out _).mono ?_
      rintro e w2 ⟨rfl, rfl⟩
      have HFN := Lib.hid (HFD.out w1 hL)
      go_wp2_with fail
      refine HFN.out.mono ?_
      rintro e w2 ⟨rfl, m, rfl⟩
      obtain ⟨A, A', c, hce, hcc, hcm, hap1, hap2, hslc, hap3⟩ := HRW.out w1 hL m
      have d1 := hce _ (Below.refl _ _)
      have dr := HRM.out w1 hL m
      have HOB := Lib.hid (HOBJ.out w1 hL m A c d1)
      have HAPB := Lib.hid (HBY.out w1 hL m)
      have HCE := Lib.hid hce
      have HAP1 := Lib.hid hap1
      have HAP2 := Lib.hid hap2
      have HAP3 := Lib.hid hap3
      unfold maxLen at hcm
      clear hce hap1 hap2 hap3 HRW HRM HOBJ HBY HFD HFN HV HT
      generalize hWg : w1.drewN m = W at *
      have hkc := Nat.le_trans hkl hcc
      have HCC := Lib.hid hcc
      clear hcc
      go_wp2_with fail
      go_loop [10, 11] (fun uv iv => ∃ i u : Nat, iv = .int .i64 i ∧ i ≤ fs.length ∧ uv = .int .i64 u ∧ u = usedBut lo true K i) (fun _ iv => fs.length - (intOf iv).toNat)
      case atStart => exact ⟨0, 0, rfl, Nat.zero_le _, rfl, (by unfold usedBut; rw [if_neg (by omega)]; rfl)⟩
      case round =>
        obtain ⟨i, u, rfl, hi, rfl, hue⟩ := hrel
        by_cases hlt : i < fs.length
        · rw [hue]
          clear hue
          have HST := Lib.hid (usedBut_step lo true K i (by rw [HLO.out]; exact hlt) (by simpa using HKK.out))
          have hle := usedBut_le lo true K (i + 1)
          obtain ⟨g, off, Ax, bl, cx, hAg, d3, hbl⟩ := HOB.out i hlt
          subst hAg
          by_cases hiK : i = K
          · rw [if_neg (by simp [hiK])] at HST
            have q1 : (((i : Nat) : Int) != ((K : Nat) : Int)) = false := by simp [hiK]
            have q2 : (i != K) = false := by simp [hiK]
            generalize usedBut lo true K i = u at *
            clear hbl hle
            go_wp2
            go_round
            case rel => exact ⟨i + 1, u, by go_num, hlt, rfl, HST.out.symm⟩
            case measure => simp [intOf]; omega
          · rw [if_pos (Or.inr hiK), hbl] at HST
            rw [HST.out] at hle
            have q1 : (((i : Nat) : Int) != ((K : Nat) : Int)) = true := by simp; omega
            have q2 : (i != K) = true := by simpa using hiK
            generalize usedBut lo true K i = u at *
            clear hbl
            go_wp2
            go_round
            case rel => exact ⟨i + 1, u + bl, by go_num, hlt, by go_num, HST.out.symm⟩
            case measure => simp [intOf]; omega
        · have HUF := Lib.hid hue
          obtain rfl : i = fs.length := by omega
          have hue2 : u = U := hue.trans HUU.out
          subst hue2
          clear hue
          by_cases hfull : room - (u : Int) < (L : Int)
          · have hfd : decide (room - (u : Int) < (L : Int)) = true := decide_eq_true hfull
            have HRF := Lib.hid (HFULL.out hfull)
            clear hfull
            go_wp2
            go_ret
            rw [HRF.out]
            exact ⟨rfl, fs, HLF.out, hL.more HW.out (by rw [← hWg]; exact below_drewN (Below.refl _ _) m)⟩
          · have hfd : decide (room - (u : Int) < (L : Int)) = false := decide_eq_false hfull
            have HRF := Lib.hid (HFIT.out (Int.not_lt.1 hfull))
            clear hfull
            clear HUF HUU HFULL HKK HOB HLO hUl hu
            go_wp2_with (at_builtin; obtain ⟨v5, w5, hr5, hn5⟩ := HAP1.out 49; refine wpList_append_run rfl (.const (.slice none 0 0)) (.tmp 76) 49 rfl _ _ rfl rfl _ w5 hr5 ?_; obtain ⟨A5, c5, h5e, _⟩ := row_form3 hn5.1; rw [HTK.out] at h5e; subst h5e; refine Hid.out ?_)
            refine Lib.hid ?_
            have HN5 := Lib.hid hn5
            clear hr5 hn5 hfd hw1 d1 hkt2 hkt3
            go_wp2_with (at_builtin; obtain ⟨Ay, cy, w6, hr6, hoy, hb6⟩ := HAPB.out w5 HN5.out.2 32; refine wpList_append_run rfl (.const (.slice none 0 0)) (.tmp 79) 32 rfl _ _ rfl rfl _ w6 hr6 ?_; refine Hid.out ?_)
            refine Lib.hid ?_
            have HA2 := Lib.hid (HAP2.out w5 w6 _ Ay cy HN5.out hb6 hoy)
            clear hr6 hoy hb6 HN5
            go_wp2_with (at_builtin; obtain ⟨v3, w3, hr3, hn3, hoy3⟩ := HA2.out 49; refine wpList_append_run rfl (.tmp 77) (.tmp 82) 49 rfl _ _ rfl rfl _ w3 hr3 ?_; obtain ⟨A3, c3, h3e, _⟩ := row_form3 hn3.1; rw [HN3.out] at h3e; subst h3e; refine Hid.out ?_)
            refine Lib.hid ?_
            have e3 := HCE.out _ hn3.2
            have HA3 := Lib.hid (HAP3.out w3 _ Ay cy hn3 hoy3)
            clear hr3 hn3 hoy3 HA2
            go_wp2_with (at_builtin; obtain ⟨A4, L4, c4, w4, hr4, z4, e4, FIN⟩ := HA3.out 49; refine wpList_append_run rfl (.tmp 85) (.tmp 91) 49 rfl _ _ rfl rfl _ w4 hr4 ?_; have FN := Lib.hid FIN; clear FIN hr4)
            refine (HTD.out _).mono ?_
            rintro e w9 ⟨rfl, rfl⟩
            go_wp2
            go_ret
            rw [HRF.out]
            exact ⟨rfl, _, HLAY.out _ rfl _, OLeft.trans HW.out hL.keep (OLeft.behind (by rw [← hWg]; exact below_drewN (Below.refl _ _) m) FN.out hL.store.1)⟩
set_option maxHeartbeats 1600000 in
set_option maxRecDepth 4000 in
theorem osput_any (hR : RStore base S w p room fs bad) (n : ByteArray) (hn : n.size ≤ maxLen) (B : Option Addr) (ys : List Int) (cb : Nat) (hbl : bad.length ≤ 1000000) (hlen : fs.length ≤ 1000000000) (hr0 : 0 ≤ room) (hr1 : room ≤ 9223372036854775807) (hu : usedM (filesOf fs) ≤ 1099511627776) (hys : IsBytes ys)
    (hl : LiesOff S w B ys) (hB : B = none → cb = 0) (hcb : ys.length ≤ cb) (hyl : ys.length ≤ 549755813888) :
    Calls Tryd.prog 19 #[.pointer (some ⟨p, 0, none⟩), .string n, .slice B ys.length cb] w (ODoes base S p room bad.tail (faulty (bad.headD 0) (filesOf fs) (putM room (filesOf fs) n ys)) w) := by
  have HT := Lib.hid (osfault_any hR hbl)
  have HV := Lib.hid (fun W => refvalid_any n W hn)
  obtain ⟨k, hk⟩ : ∃ k, bad.headD 0 = k := ⟨_, rfl⟩
  have HC := fun hv hk2 r hr => osput_core hR n hn B ys cb hbl hlen hr0 hr1 hu hys hl hB hcb hyl hv k hk hk2 r hr
  rw [hk] at HT ⊢
  obtain ⟨L, hLe⟩ : ∃ L, ys.length = L := ⟨_, rfl⟩
  by_cases h0 : k = 0
  · subst h0
    rw [faulty_0]
    cases hv : validS n with
    | false =>
      rw [hv] at HV
      rw [stockM_bad hv, hLe]
      clear HC hv hR hn hbl hlen hr0 hr1 hu hys hl hB hcb hyl hk hLe
      go_enter Tryd.func19, Tryd.ntmps19
      go_wp2_with fail
      refine HT.out.mono ?_
      rintro e w1 ⟨rfl, hL⟩
      go_wp2_with fail
      refine (HV.out _).mono ?_
      rintro e w2 ⟨rfl, rfl⟩
      go_wp2
      go_ret
      exact ⟨rfl, fs, rfl, hL⟩
    | true =>
      refine HC hv (.inl rfl) _ ?_
      unfold putM
      rw [if_neg (by rw [hv]; simp)]
      rfl
  · by_cases h2 : k = 2
    · subst h2
      rw [faulty_2]
      cases hv : validS n with
      | false =>
        rw [hv] at HV
        rw [stockM_bad hv, hLe]
        clear HC hv hR hn hbl hlen hr0 hr1 hu hys hl hB hcb hyl hk hLe h0
        go_enter Tryd.func19, Tryd.ntmps19
        go_wp2_with fail
        refine HT.out.mono ?_
        rintro e w1 ⟨rfl, hL⟩
        go_wp2_with fail
        refine (HV.out _).mono ?_
        rintro e w2 ⟨rfl, rfl⟩
        go_wp2
        go_ret
        exact ⟨rfl, fs, rfl, hL⟩
      | true =>
        refine HC hv (.inr rfl) _ ?_
        unfold putM
        rw [if_neg (by rw [hv]; simp)]
        split <;> rfl
    · rw [faulty_no h0 h2, hLe]
      have b0 : (k != 0) = true := by simpa using h0
      have b2 : (k != 2) = true := by simpa using h2
      clear HC hR hn hbl hlen hr0 hr1 hu hys hl hB hcb hyl hk hLe h0 h2 HV
      go_enter Tryd.func19, Tryd.ntmps19
      go_wp2_with fail
      refine HT.out.mono ?_
      rintro e w1 ⟨rfl, hL⟩
      go_wp2
      go_ret
      exact ⟨rfl, fs, rfl, hL⟩
end
end Go.Proofs.YtfbdmagonjjjoaaDoor
