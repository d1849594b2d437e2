/- Contracts of chapter 10's own Big, num and alive. -/
import Derived.Test.YtiglignfjegilaaDoorCmdProg
import Derived.Test.YtiglignfjegilaaDoorRCmdSame
namespace Go.Proofs.YtiglignfjegilaaDoor
open Go.RowKit

theorem num10_any (n : Int) (w : World) : Calls Tryd.prog 13 #[.int .i64 n] w (fun e w' => e = .returned (.int .i64 n) ∧ w' = w) := by
  go_enter Tryd.func13, Tryd.ntmps13
  go_wp2
  go_ret
  exact ⟨rfl, rfl⟩
def AnyBool (w : World) (e : Ending) (w' : World) : Prop := (∃ d : Bool, e = .returned (.bool d)) ∧ Below w.heap.size w w'
set_option maxHeartbeats 1600000 in
set_option maxRecDepth 4000 in
theorem big10_any (w : World) (A : Option Addr) (cap : Nat) (c : Cmd) (h : RecsLie w A c.recs cap) (hg : c.group.size ≤ maxLen) :
    Calls Tryd.prog 8 #[cmdV (.slice A c.recs.length cap) c] w (AnyBool w) := by
  have hcl := h.2.1
  have hcm := h.2.2.1
  unfold maxLen at hcm hg
  have HB := Lib.hid ((Below.refl w.heap.size w).alloc (Nat.le_refl _) (cmdO (.slice A c.recs.length cap) c))
  have HA := Lib.hid h
  obtain ⟨kind, pid, seq, recs, group, off, max, now, sum, seg, keep, age, grace⟩ := c
  unfold cmdO at HB
  unfold cmdV
  dsimp only at HB HA hcl hg ⊢
  clear h
  go_enter Tryd.func8, Tryd.ntmps8
  go_wp2_with fail
  go_loop [3] (fun iv => ∃ i : Nat, iv = .int .i64 i ∧ i ≤ recs.length) (fun iv => recs.length - (intOf iv).toNat)
  case atStart => exact ⟨0, rfl, Nat.zero_le _⟩
  case round =>
    obtain ⟨i, rfl, hi⟩ := hrel
    by_cases hlt : i < recs.length
    · have z0 : decide ((i : Int) < (recs.length : Int)) = true := decide_eq_true (by omega)
      by_cases h70 : i < 70
      · have z1 : decide ((i : Int) < 70) = true := decide_eq_true (by omega)
        obtain ⟨b, off', rfl, hbl, hat⟩ := HA.out.more hlt
        obtain ⟨g0, g1, g2, g3, g4⟩ := hat.keep (w' := _) fun j => (HB.out).cell (p := ⟨b, j, none⟩) hbl
        obtain ⟨km, hkm⟩ : ∃ n, recs[i].key = n := ⟨_, rfl⟩
        obtain ⟨vm, hvm⟩ : ∃ n, recs[i].val = n := ⟨_, rfl⟩
        rw [hkm] at g2
        rw [hvm] at g3
        clear hat g0 g1 g4 hkm hvm hbl
        by_cases q1 : 250 < km.size
        · have z1 : decide ((250 : Int) < (km.size : Int)) = true := decide_eq_true (by omega)
          go_wp2
          go_ret
          exact ⟨⟨_, rfl⟩, HB.out⟩
        · have z1 : decide ((250 : Int) < (km.size : Int)) = false := decide_eq_false (by omega)
          by_cases q2 : 2100 < vm.size
          · have z2 : decide ((2100 : Int) < (vm.size : Int)) = true := decide_eq_true (by omega)
            go_wp2
            go_ret
            exact ⟨⟨_, rfl⟩, HB.out⟩
          · have z2 : decide ((2100 : Int) < (vm.size : Int)) = false := decide_eq_false (by omega)
            go_wp2
            go_round
            case rel => exact ⟨i + 1, by go_num, hlt⟩
            case measure => simp [intOf]; omega
      · have z1 : decide ((i : Int) < 70) = false := decide_eq_false (by omega)
        go_wp2_with fail
        all_goals go_ret
        all_goals exact ⟨⟨_, rfl⟩, HB.out⟩
    · have z0 : decide ((i : Int) < (recs.length : Int)) = false := decide_eq_false (by omega)
      go_wp2_with fail
      all_goals go_ret
      all_goals exact ⟨⟨_, rfl⟩, HB.out⟩
/-- A command that is right. -/
def fetchC : Cmd := ⟨2, 0, 0, [], ⟨#[]⟩, 7, 3, 0, 0, 0, 0, 0, 0⟩
theorem fetchC_right : fetchC.right := by
  unfold fetchC Cmd.right Cmd.plain Cmd.fits within
  simp
  rfl
theorem fetchC_wf : fetchC.wf := ⟨by decide, by decide, by decide, fun _ h => (by cases h), by decide, by decide, by decide, by decide, by decide, by decide, by decide, by decide, by decide⟩
/-- One whose kind is none. -/
def noneC : Cmd := ⟨-1, 0, 0, [], ⟨#[]⟩, 0, 0, 0, 0, 0, 0, 0, 0⟩
theorem noneC_wrong : ¬ noneC.right := by
  unfold noneC Cmd.right Cmd.plain Cmd.fits within
  simp
theorem noneC_wf : noneC.wf := ⟨by decide, by decide, by decide, fun _ h => (by cases h), by decide, by decide, by decide, by decide, by decide, by decide, by decide, by decide, by decide⟩
set_option maxHeartbeats 3200000 in
set_option maxRecDepth 100000 in
theorem alive10_any (w : World) (hT : Tabs w) : Calls Tryd.prog 7 #[] w (fun e w' => e = .returned (.bool true) ∧ Below w.heap.size w w') := by
  have HT := Lib.hid hT
  have H0 := Lib.hid ((Below.refl w.heap.size w).alloc (Nat.le_refl _) (cmdO (.slice none 0 0) fetchC))
  have HBY := Lib.hid (vcbytes_any (w.alloc (cmdO (.slice none 0 0) fetchC)) (hT.below H0.out) none 0 fetchC (RecsLie.none _) fetchC_wf)
  have hpos := cmdB_some fetchC_right
  have hby := cmdB_bytes fetchC_wf
  have hlen := cmdB_length fetchC_wf
  have hback := cmdR_back fetchC_wf fetchC_right
  obtain ⟨X, hX⟩ : ∃ X, cmdB fetchC = X := ⟨_, rfl⟩
  rw [hX] at HBY hpos hby hlen hback
  clear hT hX
  unfold cmdV cmdO fetchC at HBY
  unfold cmdO fetchC at H0
  dsimp only at HBY H0
  simp only [List.length_nil] at HBY
  have HSM := Lib.hid (fun (W : World) (d : Cmd) A2 c2 h2 => refsame10_any W fetchC d none A2 0 c2 (RecsLie.none _) h2)
  have HR1 := Lib.hid (fun (W : World) (hb : Below w.heap.size w W) => vcright_any W (HT.out.below hb) none 0 fetchC (RecsLie.none _) fetchC_wf)
  have HR2 := Lib.hid (fun (W : World) (hb : Below w.heap.size w W) => vcright_any W (HT.out.below hb) none 0 noneC (RecsLie.none _) noneC_wf)
  rw [decide_eq_true fetchC_right] at HR1
  rw [decide_eq_false noneC_wrong] at HR2
  unfold cmdV at HSM HR1 HR2
  unfold noneC at HR2
  dsimp only [fetchC] at HSM HR1
  dsimp only at HR2
  simp only [List.length_nil] at HSM HR1 HR2
  go_enter Tryd.func7, Tryd.ntmps7
  go_wp2_with fail
  refine HBY.out.mono ?_
  rintro e w2 ⟨v, rfl, ho, hb2⟩
  obtain ⟨Ab, cb, rfl, hl, hc, hm, hn⟩ := ho.parts2
  have HB2 := Lib.hid (H0.out.trans (hb2.mono H0.out.size))
  have HW2 := Lib.hid hb2
  have HRD := Lib.hid (vcread_any Ab X cb w2 (HT.out.below HB2.out) hm hby hl hc hn (by omega))
  rw [hback] at HRD
  obtain ⟨L, hL⟩ : ∃ L, X.length = L := ⟨_, rfl⟩
  rw [hL] at hl hlen HRD hpos ⊢
  have q1 : decide ((0 : Int) < (L : Int)) = true := decide_eq_true (by omega)
  have q2 : decide (0 < L) = true := decide_eq_true hpos
  clear hL hpos ho hb2 hm HBY hby hback
  unfold maxLen at hc
  go_wp2_with fail
  refine HRD.out.mono ?_
  rintro e w3 ⟨hb3, hres⟩
  rcases hres with ⟨h, _⟩ | ⟨c, v, hcc, rfl, ho3⟩
  · cases h
  · injection hcc with hcc
    subst hcc
    obtain ⟨A3, cap3, rfl, hl3⟩ := own_lie ho3 (fun r hr => by cases hr)
    have HL3 := Lib.hid (fun W : World => (⟨fun h => absurd rfl h, hl3.2.1, hl3.2.2.1, hl3.2.2.2⟩ : RecsLie W A3 fetchC.recs cap3))
    have HB3 := Lib.hid (HB2.out.trans (hb3.mono HB2.out.size))
    have HW3 := Lib.hid hb3
    have HS3 := Lib.hid (fun W => HSM.out W fetchC A3 cap3 (HL3.out W))
    unfold cmdV
    dsimp only [fetchC] at HS3 ⊢
    simp only [List.length_nil] at HS3 ⊢
    clear ho3 hl3 hb3 HSM HRD HL3 HB2
    have HG := Lib.hid (block_keep (block_keep (cmd_new w (.slice none 0 0) fetchC) HW2.out) HW3.out)
    obtain ⟨f0, f1, f2, f3, f4, f5, f6, f7, f8, f9, f10, f11, f12⟩ := cmd_at HG.out
    have hlt3 : w.heap.size < w3.heap.size := (Array.getElem?_eq_some_iff.1 HG.out).1
    have HB4 := Lib.hid (HB3.out.alloc HB3.out.size (cmdO (.slice A3 0 cap3) fetchC))
    have HG4 := Lib.hid (block_keep HG.out ((Below.refl w3.heap.size w3).alloc (Nat.le_refl _) (cmdO (.slice A3 0 cap3) fetchC)))
    have HD4 := Lib.hid (cmd_new w3 (.slice A3 0 cap3) fetchC)
    unfold cmdO fetchC at HB4 HG4 HD4
    dsimp only [fetchC] at f0 f1 f2 f3 f4 f5 f6 f7 f8 f9 f10 f11 f12
    go_wp2_with fail
    refine (num10_any _ _).mono ?_
    rintro e w' ⟨rfl, rfl⟩
    go_wp2_with fail
    refine (HS3.out _).mono ?_
    rintro e w5 ⟨d, rfl, hd, hb5⟩
    obtain rfl : d = true := by simpa using hd
    have HB5 := Lib.hid (HB4.out.trans (hb5.mono HB4.out.size))
    have HG5 := Lib.hid (block_keep HG4.out hb5)
    have hf5 := cmd_at (v := .slice none 0 0) (c := fetchC) HG5.out
    obtain ⟨g0, g1, g2, g3, g4, g5, g6, g7, g8, g9, g10, g11, g12⟩ := hf5
    dsimp only [fetchC] at g0 g1 g2 g3 g4 g5 g6 g7 g8 g9 g10 g11 g12
    have H5 := Lib.hid (HR1.out w5 HB5.out)
    clear f0 f1 f2 f3 f4 f5 f6 f7 f8 f9 f10 f11 f12 hd hb5 HS3 HB4 HG4 HD4 HG
    go_wp2_with fail
    refine H5.out.mono ?_
    rintro e w6 ⟨rfl, hb6⟩
    have HB6 := Lib.hid (HB5.out.trans (hb6.mono HB5.out.size))
    have H6 := Lib.hid (HR2.out w6 HB6.out)
    clear g0 g1 g2 g3 g4 g5 g6 g7 g8 g9 g10 g11 g12 hb6 H5 HR1 HR2 HB5 HG5
    go_wp2_with fail
    refine H6.out.mono ?_
    rintro e w7 ⟨rfl, hb7⟩
    have HB7 := Lib.hid (HB6.out.trans (hb7.mono HB6.out.size))
    clear hb7
    go_wp2_with fail
    go_ret
    exact ⟨rfl, HB7.out⟩
end Go.Proofs.YtiglignfjegilaaDoor
