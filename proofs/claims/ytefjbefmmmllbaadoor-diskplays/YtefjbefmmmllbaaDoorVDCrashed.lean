/- A contract of the program's own Crash: the walk. -/
import Derived.Test.YtefjbefmmmllbaaDoorVDCrash
namespace Go.Proofs.YtefjbefmmmllbaaDoor
open Go.RowKit Go.Maps

section
variable {base : Nat} {S : Nat → Prop} {w : World} {p : Nat} {room u : Int} {fs : List FileP}
/-- What Crash leaves. -/
def Crashed (base : Nat) (S : Nat → Prop) (p : Nat) (room : Int) (l : List FileM) (w : World) (e : Ending) (w' : World) : Prop :=
  e = .returned (.tuple #[]) ∧ ∃ fs', filesP fs' = l ∧ Left base S w w' p room ((usedM (filesP fs') : Nat) : Int) fs'
set_option maxHeartbeats 3200000 in
set_option maxRecDepth 4000 in
theorem vcrash_any (hV : VDisk base S w p room fs) (A : Option Addr) (keep : List Int) (c : Nat) (hl : LiesI S w A keep) (hc : keep.length ≤ c) (hcm : c ≤ maxLen) (hfl : fs.length < 1000000000) (hu : usedM (filesP fs) ≤ 1099511627776) :
    Calls Tryd.prog 11 #[.pointer (some ⟨p, 0, none⟩), .slice A keep.length c] w (Crashed base S p room (crashM (filesP fs) keep) w) := by
  have HL := Lib.hid (vlist_any hV hfl)
  obtain ⟨L, hL⟩ : ∃ L, filesP fs = L := ⟨_, rfl⟩
  have hLn : fs.length = L.length := by rw [← hL, filesP_length]
  have start : ∀ w1, Below w.heap.size w w1 → Crashing base S w1 p room L keep w1 0 fs keep A c := fun w1 hb => by
    have hV1 := hV.below hb
    refine ⟨Left.of_below hV1 (Below.refl _ _), ⟨by rw [hL]; simp, by rw [hL], hLn⟩, ?_, ?_, hc, hcm, hu⟩
    · rw [← hL]; unfold filesP; rw [List.map_map]; rfl
    · exact hl.keep (Keep.of_below hb)
  have row : ∀ w1 v, Below w.heap.size w w1 → w1.ownsRow w.heap.size 9 1 v (fs.map fun x => x.f.name).length ((fs.map fun x => x.f.name).map Value.string) → ∃ A0 c0, v = .slice A0 L.length c0 ∧ (0 < L.length → ∃ b, A0 = some ⟨b, 0, none⟩ ∧ NameRow S w1 b (fs.map fun x => x.f.name)) := fun w1 v hb ho => by
    obtain ⟨A0, c0, h1, h2⟩ := nameRow_of (S := S) ho fun i hi => (hV.within.2 i hi).2
    rw [List.length_map, hLn] at h1 h2
    exact ⟨A0, c0, h1, h2⟩
  have done : ∀ w1 wr i fs' ks A' c', Below w.heap.size w w1 → Crashing base S w1 p room L keep wr i fs' ks A' c' → L.length ≤ i → ∃ fs', filesP fs' = crashM (filesP fs) keep ∧ Left base S w wr p room ((usedM (filesP fs') : Nat) : Int) fs' := fun w1 wr i fs' ks A' c' hb h hi => by
    refine ⟨fs', ?_, Left.behind hb h.left hV.within⟩
    rw [hL]
    exact h.at_.done (by rw [h.at_.len]; exact hi)
  have HLen := Lib.hid (show L.length < 1000000000 by omega)
  have hWn : ∀ w1, Below w.heap.size w w1 → Within base S w1 := fun w1 hb => hV.within.more hb.size
  have ST := Lib.hid start
  have RW := Lib.hid row
  have DN := Lib.hid done
  have HW := Lib.hid hWn
  clear start row done hV hl hc hcm hfl hu hLn hWn
  obtain ⟨R, hR⟩ : ∃ R, crashM (filesP fs) keep = R := ⟨_, rfl⟩
  rw [hR] at DN ⊢
  clear hR hL
  obtain ⟨NS, hNS⟩ : ∃ NS, (fs.map fun x => x.f.name) = NS := ⟨_, rfl⟩
  rw [hNS] at HL RW
  go_enter Tryd.func11, Tryd.ntmps11
  go_wp2_with fail
  refine HL.out.mono ?_
  rintro e w1 ⟨v, rfl, hrow, hb⟩
  obtain ⟨A0, c0, rfl, hA0⟩ := RW.out w1 v hb hrow
  have HA0 := Lib.hid hA0
  have CR := Lib.hid (ST.out w1 hb)
  have HB := Lib.hid hb
  clear hrow hA0 ST RW HL hb
  go_wp2_with fail
  go_loopw [1, 11] (fun kv iv wr => ∃ (i : Nat) (fs' : List FileP) (ks : List Int) (A' : Option Addr) (c' : Nat), kv = .slice A' ks.length c' ∧ iv = .int .i64 i ∧ i ≤ L.length ∧ Crashing base S w1 p room L keep wr i fs' ks A' c')
    (fun _ iv _ => L.length - (intOf iv).toNat)
  case atStart => exact ⟨0, fs, keep, A, c, rfl, rfl, Nat.zero_le _, CR.out⟩
  case round =>
    obtain ⟨i, fi, ks, A', c', rfl, rfl, hi, hC⟩ := hrel
    have hll := HLen.out
    by_cases hlt : i < L.length
    · obtain ⟨b, rfl, hNR⟩ := HA0.out (by omega)
      have hfi : i < fi.length := by rw [hC.at_.len]; exact hlt
      have hnm : ∀ h, NS[i]'h = fi[i].f.name := fun h => by
        have e1 : NS = fi.map (fun x => x.f.name) := by rw [← hNS, CR.out.names, hC.names]
        simp only [e1, List.getElem_map]
      have hNl : i < NS.length := by rw [← hNS, List.length_map, CR.out.at_.len]; exact hlt
      have hcell := (hNR.keep hC.left.keep).cell i hNl
      rw [hnm hNl] at hcell
      obtain ⟨mo, c2, hlk⟩ := hC.look hfi
      have hflo : ∀ W : World, VFile base (Grow S w1 wr) W fi[i] → Calls Tryd.prog 34 #[.pointer (some ⟨fi[i].g, 0, none⟩)] W fun e w' => e = .returned (.int .i64 (fi[i].f.loose : Int)) ∧ ∃ m, w' = W.drewN m := fun W h => vfloose_any h
      have hfile := hC.file hfi
      have HLO0 := Lib.hid (hflo wr hfile)
      have HLO := Lib.hid (fun m n => hflo ((wr.drewN m).drewN n) (hfile.same (fun _ h => h) rfl fun _ _ => rfl))
      have hd1 := hfile.cells.2
      have hlo := hfile.wf.2.2
      have hbl := used_ge (List.getElem_mem hfi)
      have hus := hC.used
      have HK := Lib.hid (fun (W : World) (hCW : Crashing base S w1 p room L keep W i fi ks A' c') => crash_keep hCW (HW.out w1 HB.out) hfi)
      have SK := Lib.hid (hC.skip hfi)
      have HC := Lib.hid hC
      have hcap := hC.cap
      have hcapm := hC.capm
      have hkl := hC.lies.keep hC.left.keep
      have HKL := Lib.hid hC.lies
      clear hC hfile hflo hNR hnm HA0 CR
      obtain ⟨LO, hLO⟩ : ∃ LO, fi[i].f.loose = LO := ⟨_, rfl⟩
      obtain ⟨g, hg⟩ : ∃ g, fi[i].g = g := ⟨_, rfl⟩
      obtain ⟨nm, hnm⟩ : ∃ nm, fi[i].f.name = nm := ⟨_, rfl⟩
      obtain ⟨BL, hBL⟩ : ∃ BL, fi[i].f.b.length = BL := ⟨_, rfl⟩
      rw [hLO] at SK HLO HLO0 hd1 hlo HK
      rw [hg] at HLO HLO0 hd1 hlk HK
      rw [hnm] at hcell hlk
      rw [hBL] at hd1 hlo HK hbl
      obtain ⟨M, hM⟩ : ∃ M, BL - LO = M := ⟨_, rfl⟩
      rw [hM] at hd1 HK
      clear hLO hg hnm hBL
      have HM := Lib.hid hM
      have hMb : M ≤ 1099511627776 := by omega
      have hLb : LO ≤ 1099511627776 := by omega
      clear hM
      unfold maxLen at hcapm
      by_cases h0 : LO = 0
      · have SK2 := Lib.hid (SK.out h0)
        subst h0
        clear SK HK HKL hkl HLO
        go_wp2_with fail
        refine HLO0.out.mono ?_
        rintro e w2 ⟨rfl, m, rfl⟩
        go_wp2
        go_roundw
        case rel => exact ⟨i + 1, fi, ks, A', c', rfl, by go_num, by omega, SK2.out.drewN m⟩
        case measure => simp [intOf]; omega
      · have hz : ((LO : Int) == 0) = false := by simpa using h0
        have HK1 := Lib.hid (fun W hCW => HK.out W hCW h0)
        clear HK SK
        cases hks : ks with
        | nil =>
          subst hks
          have HK2 := Lib.hid (fun W hCW => HK1.out W hCW M (by simp only [List.headD_nil]; omega) A' c' (fun h => absurd rfl h) hcap hcapm)
          clear HK1 hkl HLO
          go_wp2_with fail
          refine HLO0.out.mono ?_
          rintro e w2 ⟨rfl, m, rfl⟩
          have hd1' : (wr.drewN m).cell? ⟨g, 1, none⟩ = some (.int .i64 (M : Int)) := hd1
          go_wp2_with fail
          refine (HK2.out _ (HC.out.drewN m)).mono ?_
          rintro e w3 ⟨rfl, fin⟩
          have FF := Lib.hid fin
          clear fin
          go_wp2
          go_roundw
          case rel =>
            obtain ⟨f3, h3⟩ := FF.out
            exact ⟨i + 1, f3, [], A', c', rfl, by go_num, by omega, h3⟩
          case measure => simp [intOf]; omega
        | cons k0 kt =>
          subst hks
          obtain ⟨bk, off, rfl, _, _, hkc⟩ := hkl (by simp)
          have hk0 := hkc 0 (by simp)
          simp only [List.getElem_cons_zero, Nat.add_zero] at hk0
          obtain ⟨st, hst, hstl⟩ : ∃ st : Nat, min (max k0 0) (LO : Int) = (st : Int) ∧ st ≤ LO := ⟨(min (max k0 0) (LO : Int)).toNat, by omega, by omega⟩
          have hkl2 := HKL.out.cut hcap
          have HK2 := Lib.hid (fun W hCW => HK1.out W hCW (M + st) (by simp only [List.headD_cons]; omega))
          have hklen : (k0 :: kt).length = kt.length + 1 := rfl
          rw [hklen] at hcap
          have hcap1 : 1 ≤ c' := by omega
          have hwM : wrap64 ((M : Int) + (st : Int)) = (M : Int) + (st : Int) := by unfold wrap64; omega
          by_cases hc1 : c' = 1
          · have HK3 := Lib.hid (fun W hCW => HK2.out W hCW (some ⟨bk, off, none⟩) 0 (by rw [if_pos hc1] at hkl2; exact hkl2) (by show kt.length ≤ 0; omega) (by simp [maxLen]))
            obtain rfl : kt = [] := List.eq_nil_of_length_eq_zero (by omega)
            subst hc1
            clear HK1 HK2 hkl hkc hkl2 hklen
            go_wp2_with fail
            refine HLO0.out.mono ?_
            rintro e w2 ⟨rfl, m, rfl⟩
            have hd1' : (wr.drewN m).cell? ⟨g, 1, none⟩ = some (.int .i64 (M : Int)) := hd1
            have hk0' : (wr.drewN m).cell? ⟨bk, off, none⟩ = some (.int .i64 k0) := hk0
            have HCW := Lib.hid (HC.out.drewN m)
            have HLQ := Lib.hid (HLO.out m)
            clear hd1 hk0 HC HLO HLO0 hlk c2 hcell
            generalize wr.drewN m = W0 at *
            go_wp2_with fail
            go_quiet (first | (go_at_call 34; refine Calls.quiet_of (HLQ.out _)))
            have hd1q : (W0.drewN nq).cell? ⟨g, 1, none⟩ = some (.int .i64 (M : Int)) := hd1'
            have HCQ := Lib.hid (HCW.out.drewN nq)
            clear hd1' hk0' HCW HLQ
            generalize W0.drewN nq = W1 at *
            clear hst hcapm hcap hcap1 hMb hLb hstl hlo hbl hus hz h0 hi
            go_wp2_with fail
            refine (HK3.out _ HCQ.out).mono ?_
            rintro e w3 ⟨rfl, fin⟩
            have FF := Lib.hid fin
            clear fin
            go_wp2
            go_roundw
            case rel =>
              obtain ⟨f3, h3⟩ := FF.out
              exact ⟨i + 1, f3, _, _, _, rfl, by go_num, by omega, h3⟩
            case measure => simp [intOf]; omega
          · have HK3 := Lib.hid (fun W hCW => HK2.out W hCW (some ⟨bk, off + 1, none⟩) (c' - 1) (by rw [if_neg hc1] at hkl2; simpa [add_lit] using hkl2) (by show kt.length ≤ c' - 1; omega) (by unfold maxLen; omega))
            clear HK1 HK2 hkl hkc hkl2 hklen
            go_wp2_with fail
            refine HLO0.out.mono ?_
            rintro e w2 ⟨rfl, m, rfl⟩
            have hd1' : (wr.drewN m).cell? ⟨g, 1, none⟩ = some (.int .i64 (M : Int)) := hd1
            have hk0' : (wr.drewN m).cell? ⟨bk, off, none⟩ = some (.int .i64 k0) := hk0
            have HCW := Lib.hid (HC.out.drewN m)
            have HLQ := Lib.hid (HLO.out m)
            clear hd1 hk0 HC HLO HLO0 hlk c2 hcell
            generalize wr.drewN m = W0 at *
            go_wp2_with fail
            go_quiet (first | (go_at_call 34; refine Calls.quiet_of (HLQ.out _)))
            have hd1q : (W0.drewN nq).cell? ⟨g, 1, none⟩ = some (.int .i64 (M : Int)) := hd1'
            have HCQ := Lib.hid (HCW.out.drewN nq)
            clear hd1' hk0' HCW HLQ
            generalize W0.drewN nq = W1 at *
            clear hst hcapm hMb hLb hstl hlo hbl hus hz h0 hi
            go_wp2_with fail
            refine (HK3.out _ HCQ.out).mono ?_
            rintro e w3 ⟨rfl, fin⟩
            have FF := Lib.hid fin
            clear fin
            go_wp2
            go_roundw
            case rel =>
              obtain ⟨f3, h3⟩ := FF.out
              exact ⟨i + 1, f3, _, _, _, rfl, by go_num, by omega, h3⟩
            case measure => simp [intOf]; omega
    · have hle : L.length ≤ i := by omega
      have FF := Lib.hid (DN.out w1 wr i fi ks A' c' HB.out hC hle)
      clear hC
      go_wp2
      go_end0
      exact ⟨rfl, FF.out⟩
end
end Go.Proofs.YtefjbefmmmllbaaDoor
