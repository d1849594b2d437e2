/- Proved: for every list ix of marks, every list b of bytes and every number n, IndexSeeks(ix, b, n) returns true. -/
import Derived.Test.YtffmfgbjlijpeaaDoorRows
import Derived.WalkKit
import Derived.ProofKit
import Derived.OpenShut
import Derived.ShutString
import Derived.ChangeOld
import Derived.Below
import Derived.LaidMore
import Derived.Stop.Joined
import Derived.SevenTiedAt
import Derived.Test.YtffmfgbjlijpeaaDoorCards
import Derived.Test.YtffmfgbjlijpeaaDoorTie
import Derived.Test.YtffmfgbjlijpeaaDoorCame
import Derived.Test.YtffmfgbjlijpeaaDoorIxFound
import Derived.Test.YtffmfgbjlijpeaaDoorIxCame
import Derived.Test.YtffmfgbjlijpeaaDoorIxAlive
import Derived.Test.YtffmfgbjlijpeaaDoorCrcLaid
namespace Go.Proofs.YtffmfgbjlijpeaaDoor.indexSeeks
open Go.ChangeShapes Go.WideShapes Go.ChangeAt Go.RowKit
open Go.ChangeMaps (open_string shut_string)
set_option linter.unusedVariables false

theorem own : ownKnob Tryd.prog.godebug = none := by kernel_rfl
theorem laidOut : laidOutB Tryd.prog = true := by kernel_rfl

def IsRow (k : IntKind) (w : World) (a : Option Addr) (len cap : Nat) (zs : List Int) : Prop :=
  (a = none ∧ len = 0 ∧ cap = 0 ∧ zs = []) ∨
  ∃ x, a = some x ∧ len ≤ cap ∧ cap ≤ maxLen ∧ zs.length = cap ∧ (∀ i, i < zs.length → w.cell? (x.add i) = some (.int k (zs.getD i 0))) ∧ ∀ n ∈ zs, (Lit.int k n).wf = true

set_option maxHeartbeats 3200000 in
set_option maxRecDepth 4000 in
theorem walk (a0 : Option Addr) (cap0 : Nat) (z0 : List MarkM) (a1 : Option Addr) (len1 cap1 : Nat) (z1 : List Int) (a2 : Int) (w : World) (hh : Half w) (w0 : RowsLie markRep w (fun b => b < w.heap.size) a0 z0 cap0 ∧ ∀ m ∈ z0, m.wf) (w1 : IsRow .u8 w a1 len1 cap1 z1) (w2 : (Lit.int .i64 a2).wf = true) :
    Calls Tryd.prog 4 #[.slice a0 z0.length cap0, .slice a1 len1 cap1, .int .i64 a2] w fun e w' => e = .returned (.bool true) ∧ Below w.heap.size w w' := by
  obtain ⟨xs, rfl, hc, hm, hl, hwf, hn⟩ := row_came w1
  have hby : IsBytes xs := fun n hn => bounds_u8 (hwf n hn)
  obtain ⟨w0, w0w⟩ := w0
  have hcl := w0.2.1
  have hcm := w0.2.2
  have h0 := hh.pos
  have HAL := Lib.hid (alive9_any w hh)
  clear w1 w2 hwf w0w
  by_cases h50 : 50 < z0.length
  · have q1 : (50 : Int) < (z0.length : Int) := by omega
    unfold maxLen at hcm hm
    go_enter Tryd.func4, Tryd.ntmps4
    go_wp2_with fail
    refine HAL.out.mono ?_
    rintro e w1 ⟨rfl, hbel⟩
    go_wp2
    go_ret
    exact ⟨rfl, hbel⟩
  by_cases h1000 : 1000 < xs.length
  · have q1 : ¬ (50 : Int) < (z0.length : Int) := by omega
    have q2 : (1000 : Int) < (xs.length : Int) := by omega
    unfold maxLen at hcm hm
    go_enter Tryd.func4, Tryd.ntmps4
    go_wp2_with fail
    refine HAL.out.mono ?_
    rintro e w1 ⟨rfl, hbel⟩
    go_wp2
    go_ret
    exact ⟨rfl, hbel⟩
  have hxl : xs.length ≤ 549755813888 := by omega
  have HLIE : Hid (∀ W, Below w.heap.size w W → RowsLie markRep W (fun b => b < w.heap.size) a0 z0 cap0) := Lib.hid fun W hb => w0.below hb fun _ h => h
  have HV1 := Lib.hid (fun (W : World) (hb : Below w.heap.size w W) => vfind_any (fun b => b < w.heap.size) a1 xs cap1 a0 z0 cap0 a2 W (hh.below hb h0) (HLIE.out W hb) (fun b h => Nat.lt_of_lt_of_le h hb.size) ((hl.below hb).more hb.size) hby hc hm hn hxl)
  have HV2 := Lib.hid (fun (W : World) (hb : Below w.heap.size w W) => vfindtime_any (fun b => b < w.heap.size) a1 xs cap1 a0 z0 cap0 a2 W (hh.below hb h0) (HLIE.out W hb) (fun b h => Nat.lt_of_lt_of_le h hb.size) ((hl.below hb).more hb.size) hby hc hm hn hxl)
  have HV3 := Lib.hid (fun (W : World) (hb : Below w.heap.size w W) => vseek_any W (fun b => b < w.heap.size) a0 z0 cap0 (HLIE.out W hb) (fun b h => Nat.lt_of_lt_of_le h hb.size) a2)
  have HV4 := Lib.hid (fun (W : World) (hb : Below w.heap.size w W) => vseektime_any W (fun b => b < w.heap.size) a0 z0 cap0 (HLIE.out W hb) (fun b h => Nat.lt_of_lt_of_le h hb.size) a2)
  have HMK := Lib.hid (fun (W : World) (hb : Below w.heap.size w W) => marks_any W (fun b => b < w.heap.size) a0 z0 cap0 (HLIE.out W hb) (fun b h => Nat.lt_of_lt_of_le h hb.size) (by omega))
  have HR1 := Lib.hid (fun (W : World) (S : Nat → Prop) (B : Option Addr) (d : Nat) (hb : Below w.heap.size w W) (hr : RowsLie markRep W S B z0 d) (hS : ∀ b, S b → b < W.heap.size) => reffind_any S a1 xs cap1 B z0 d a2 W hr hS ((hl.below hb).more hb.size) hby hc hm hn hxl)
  have HR2 := Lib.hid (fun (W : World) (S : Nat → Prop) (B : Option Addr) (d : Nat) (hb : Below w.heap.size w W) (hr : RowsLie markRep W S B z0 d) (hS : ∀ b, S b → b < W.heap.size) => reffindtime_any S a1 xs cap1 B z0 d a2 W hr hS ((hl.below hb).more hb.size) hby hc hm hn hxl)
  have HR3 := Lib.hid (fun (W : World) (S : Nat → Prop) (B : Option Addr) (d : Nat) (hr : RowsLie markRep W S B z0 d) => refseek_any W S B z0 d hr a2)
  have HR4 := Lib.hid (fun (W : World) (S : Nat → Prop) (B : Option Addr) (d : Nat) (hr : RowsLie markRep W S B z0 d) => refseektime_any W S B z0 d hr a2)
  have q1 : ¬ (50 : Int) < (z0.length : Int) := by omega
  have q2 : ¬ (1000 : Int) < (xs.length : Int) := by omega
  obtain ⟨L, hL⟩ : ∃ L, xs.length = L := ⟨_, rfl⟩
  obtain ⟨K, hK⟩ : ∃ K, z0.length = K := ⟨_, rfl⟩
  have HK := Lib.hid hK
  obtain ⟨P3, hP3⟩ : ∃ p, seekM z0 a2 = p := ⟨_, rfl⟩
  obtain ⟨P4, hP4⟩ : ∃ p, seekTM z0 a2 = p := ⟨_, rfl⟩
  rw [hL] at q2 hc HV1 HV2 HR1 HR2 ⊢
  rw [hK] at q1 hcl HV1 HV2 HV3 HV4 HMK HR1 HR2 HR3 HR4 ⊢
  rw [hP3] at HV1 HV3 HR1 HR3
  rw [hP4] at HV2 HV4 HR2 HR4
  unfold maxLen at hcm hm
  clear hl hby hn hxl h50 h1000 hL hK hP3 hP4 w0 hh
  go_enter Tryd.func4, Tryd.ntmps4
  go_wp2_with fail
  refine HAL.out.mono ?_
  rintro e wA ⟨rfl, hbA⟩
  have BA := Lib.hid hbA
  clear hbA HAL
  go_wp2_with fail
  refine (HMK.out wA BA.out).mono ?_
  rintro e wM ⟨vM, rfl, oM, bM⟩
  obtain ⟨A8, c8, rfl, p8, _⟩ := OwnS.parts oM
  have hq1 := p8.2.1
  have hq2 := p8.2.2
  unfold maxLen at hq2
  have HM8 : Hid (∀ W, Below wM.heap.size wM W → RowsLie markRep W (fun b => b < wM.heap.size) A8 z0 c8) := Lib.hid fun W hb => (p8.mono (T := fun b => b < wM.heap.size) fun b hb => by
      rcases hb with hb | hb
      · exact hb.elim
      · exact (OwnS.lt oM b hb).2).below hb fun _ h => h
  have BM := Lib.hid (BA.out.trans (bM.mono BA.out.size))
  rw [HK.out] at hq1 ⊢
  clear oM bM p8 HMK BA q1 q2
  have BWM : Hid (Below w.heap.size w wM) := BM
  have BXM : Hid (Below wM.heap.size wM wM) := Lib.hid (Below.refl _ _)
  clear BM
  go_wp2_with fail
  refine (HV1.out wM BWM.out).mono ?_
  rintro e w1 ⟨rs1, k1, hs1, _, hf1⟩
  obtain ⟨rfl, hb1⟩ := found_form hf1
  obtain ⟨F1, hF1⟩ : ∃ o, rs1.find? (geO a2) = o := ⟨_, rfl⟩
  rw [hF1]
  obtain ⟨G1, hG1⟩ : ∃ r, F1.getD zeroR = r := ⟨_, rfl⟩
  obtain ⟨I1, hI1⟩ : ∃ b, F1.isSome = b := ⟨_, rfl⟩
  rw [hG1, hI1]
  have HS1 := Lib.hid hs1
  have HF1 := Lib.hid (And.intro hF1 (And.intro hG1 hI1))
  obtain ⟨G1o, G1t, G1k, G1v, G1d⟩ := G1
  dsimp only
  clear hG1 hI1 hF1
  have hz1 := hb1.size
  have BA1 := Lib.hid (BWM.out.trans (hb1.mono BWM.out.size))
  have BW1 := Lib.hid (BA1.out.alloc BA1.out.size (.cells #[.int .i64 G1o, .int .i64 G1t, .string G1k, .string G1v, .bool G1d] 35))
  have BB1 := Lib.hid (BXM.out.trans (hb1.mono BXM.out.size))
  have BX1 := Lib.hid (BB1.out.alloc BB1.out.size (.cells #[.int .i64 G1o, .int .i64 G1t, .string G1k, .string G1v, .bool G1d] 35))
  have NR1 := Lib.hid (fun W hb => new_rec (w := w1) (W := W) (r := ⟨G1o, G1t, G1k, G1v, G1d⟩) (t := 35) hb)
  dsimp only at NR1
  clear hs1 hf1 hb1 hz1 BA1 BB1
  go_wp2_with fail
  refine (HR1.out _ (fun b => b < wM.heap.size) A8 c8 BW1.out (HM8.out _ BX1.out) (fun b h => Nat.lt_of_lt_of_le h BX1.out.size)).mono ?_
  rintro e w2 ⟨rs2, k2, hs2, _, hf2⟩
  obtain ⟨rfl, _⟩ := HS1.out.one hs2
  obtain ⟨rfl, hb2⟩ := found_form hf2
  rw [HF1.out.1, HF1.out.2.1, HF1.out.2.2]
  dsimp only
  have hz2 := hb2.size
  have BA2 := Lib.hid (BW1.out.trans (hb2.mono BW1.out.size))
  have BW2 := Lib.hid (BA2.out.alloc BA2.out.size (.cells #[.int .i64 G1o, .int .i64 G1t, .string G1k, .string G1v, .bool G1d] 35))
  have BB2 := Lib.hid (BX1.out.trans (hb2.mono BX1.out.size))
  have BX2 := Lib.hid (BB2.out.alloc BB2.out.size (.cells #[.int .i64 G1o, .int .i64 G1t, .string G1k, .string G1v, .bool G1d] 35))
  have NR2 := Lib.hid (fun W hb => new_rec (w := w2) (W := W) (r := ⟨G1o, G1t, G1k, G1v, G1d⟩) (t := 35) hb)
  dsimp only at NR2
  have NQ1 := Lib.hid (keep_new (o := (.cells #[.int .i64 G1o, .int .i64 G1t, .string G1k, .string G1v, .bool G1d] 35)) NR1.out hb2)
  clear NR1
  have NR1 := NQ1
  clear NQ1
  clear hs2 hf2 hb2 hz2 BA2 BB2
  go_wp2_with fail
  refine (HV2.out _ BW2.out).mono ?_
  rintro e w3 ⟨rs3, k3, hs3, _, hf3⟩
  obtain ⟨rfl, hb3⟩ := found_form hf3
  obtain ⟨F3, hF3⟩ : ∃ o, rs3.find? (geT a2) = o := ⟨_, rfl⟩
  rw [hF3]
  obtain ⟨G3, hG3⟩ : ∃ r, F3.getD zeroR = r := ⟨_, rfl⟩
  obtain ⟨I3, hI3⟩ : ∃ b, F3.isSome = b := ⟨_, rfl⟩
  rw [hG3, hI3]
  have HS3 := Lib.hid hs3
  have HF3 := Lib.hid (And.intro hF3 (And.intro hG3 hI3))
  obtain ⟨G3o, G3t, G3k, G3v, G3d⟩ := G3
  dsimp only
  clear hG3 hI3 hF3
  have hz3 := hb3.size
  have BA3 := Lib.hid (BW2.out.trans (hb3.mono BW2.out.size))
  have BW3 := Lib.hid (BA3.out.alloc BA3.out.size (.cells #[.int .i64 G3o, .int .i64 G3t, .string G3k, .string G3v, .bool G3d] 35))
  have BB3 := Lib.hid (BX2.out.trans (hb3.mono BX2.out.size))
  have BX3 := Lib.hid (BB3.out.alloc BB3.out.size (.cells #[.int .i64 G3o, .int .i64 G3t, .string G3k, .string G3v, .bool G3d] 35))
  have NR3 := Lib.hid (fun W hb => new_rec (w := w3) (W := W) (r := ⟨G3o, G3t, G3k, G3v, G3d⟩) (t := 35) hb)
  dsimp only at NR3
  have NQ1 := Lib.hid (keep_new (o := (.cells #[.int .i64 G3o, .int .i64 G3t, .string G3k, .string G3v, .bool G3d] 35)) NR1.out hb3)
  clear NR1
  have NR1 := NQ1
  clear NQ1
  have NQ2 := Lib.hid (keep_new (o := (.cells #[.int .i64 G3o, .int .i64 G3t, .string G3k, .string G3v, .bool G3d] 35)) NR2.out hb3)
  clear NR2
  have NR2 := NQ2
  clear NQ2
  clear hs3 hf3 hb3 hz3 BA3 BB3
  go_wp2_with fail
  refine (HR2.out _ (fun b => b < wM.heap.size) A8 c8 BW3.out (HM8.out _ BX3.out) (fun b h => Nat.lt_of_lt_of_le h BX3.out.size)).mono ?_
  rintro e w4 ⟨rs4, k4, hs4, _, hf4⟩
  obtain ⟨rfl, _⟩ := HS3.out.one hs4
  obtain ⟨rfl, hb4⟩ := found_form hf4
  rw [HF3.out.1, HF3.out.2.1, HF3.out.2.2]
  dsimp only
  have hz4 := hb4.size
  have BA4 := Lib.hid (BW3.out.trans (hb4.mono BW3.out.size))
  have BW4 := Lib.hid (BA4.out.alloc BA4.out.size (.cells #[.int .i64 G3o, .int .i64 G3t, .string G3k, .string G3v, .bool G3d] 35))
  have BB4 := Lib.hid (BX3.out.trans (hb4.mono BX3.out.size))
  have BX4 := Lib.hid (BB4.out.alloc BB4.out.size (.cells #[.int .i64 G3o, .int .i64 G3t, .string G3k, .string G3v, .bool G3d] 35))
  have NR4 := Lib.hid (fun W hb => new_rec (w := w4) (W := W) (r := ⟨G3o, G3t, G3k, G3v, G3d⟩) (t := 35) hb)
  dsimp only at NR4
  have NQ1 := Lib.hid (keep_new (o := (.cells #[.int .i64 G3o, .int .i64 G3t, .string G3k, .string G3v, .bool G3d] 35)) NR1.out hb4)
  clear NR1
  have NR1 := NQ1
  clear NQ1
  have NQ2 := Lib.hid (keep_new (o := (.cells #[.int .i64 G3o, .int .i64 G3t, .string G3k, .string G3v, .bool G3d] 35)) NR2.out hb4)
  clear NR2
  have NR2 := NQ2
  clear NQ2
  have NQ3 := Lib.hid (keep_new (o := (.cells #[.int .i64 G3o, .int .i64 G3t, .string G3k, .string G3v, .bool G3d] 35)) NR3.out hb4)
  clear NR3
  have NR3 := NQ3
  clear NQ3
  clear hs4 hf4 hb4 hz4 BA4 BB4
  have BWW := Lib.hid BW4.out
  have BXX := Lib.hid BX4.out
  obtain ⟨g1, hg1⟩ : ∃ g, w1.heap.size = g := ⟨_, rfl⟩
  obtain ⟨g2, hg2⟩ : ∃ g, w2.heap.size = g := ⟨_, rfl⟩
  obtain ⟨g3, hg3⟩ : ∃ g, w3.heap.size = g := ⟨_, rfl⟩
  rw [hg1] at NR1 ⊢
  rw [hg2] at NR2 ⊢
  rw [hg3] at NR3 ⊢
  clear HS1 HS3 HF1 HF3 HR1 HR2 HV2 BW1 BX1 BW2 BX2 BW3 BX3 BW4 BX4 BWM BXM HLIE hg1 hg2 hg3
  have s1 : (G1o == G1o) = true := by simp
  have s2 : (G1t == G1t) = true := by simp
  have s3 : (G1k.toList == G1k.toList) = true := by simp
  have s4 : (G1v.toList == G1v.toList) = true := by simp
  have s5 : (G1d == G1d) = true := by simp
  have t1 : (G3o == G3o) = true := by simp
  have t2 : (G3t == G3t) = true := by simp
  have t3 : (G3k.toList == G3k.toList) = true := by simp
  have t4 : (G3v.toList == G3v.toList) = true := by simp
  have t5 : (G3d == G3d) = true := by simp
  have t6 : (I1 == I1) = true := by simp
  have t7 : (I3 == I3) = true := by simp
  have t8 : (P3 == P3) = true := by simp
  have t9 : (P4 == P4) = true := by simp
  go_wp2_with (first
    | (go_at_call 16; refine (HV3.out _ BWW.out).mono ?_; rintro e w5 ⟨rfl, hb5⟩; have hz4 := BWW.out.size; have BW5 := Lib.hid (BWW.out.trans (hb5.mono hz4)); have BX5 := Lib.hid (BXX.out.trans (hb5.mono BXX.out.size)); have HB5 := Lib.hid hb5; clear hb5 hz4)
    | (go_at_call 17; refine (HR3.out w5 (fun b => b < wM.heap.size) A8 c8 (HM8.out w5 BX5.out)).mono ?_; rintro e w5' ⟨rfl, hw5⟩; have hw5' := hw5.symm; clear hw5; subst hw5')
    | (go_at_call 18; refine (HV4.out w5 BW5.out).mono ?_; rintro e w6 ⟨rfl, hb6⟩; have BX6 := Lib.hid (BX5.out.trans (hb6.mono BX5.out.size)); have BW6 := Lib.hid (BW5.out.trans (hb6.mono BW5.out.size)); have HB6 := Lib.hid (HB5.out.trans (hb6.mono HB5.out.size)); obtain ⟨a0', a1', a2', a3', a4'⟩ := NR1.out w6 HB6.out; obtain ⟨b0', b1', b2', b3', b4'⟩ := NR2.out w6 HB6.out; obtain ⟨d0', d1', d2', d3', d4'⟩ := NR3.out w6 HB6.out; obtain ⟨e0', e1', e2', e3', e4'⟩ := NR4.out w6 HB6.out; simp only [Nat.zero_add] at a0' a1' a2' a3' a4' b0' b1' b2' b3' b4' d0' d1' d2' d3' d4' e0' e1' e2' e3' e4'; clear hb6 NR1 NR2 NR3 NR4)
    | (go_at_call 19; refine (HR4.out w6 (fun b => b < wM.heap.size) A8 c8 (HM8.out w6 BX6.out)).mono ?_; rintro e w6' ⟨rfl, hw6⟩; have hw6' := hw6.symm; clear hw6; subst hw6'))
  go_ret
  exact ⟨rfl, BW6.out⟩

set_option maxRecDepth 100000 in
theorem lifted (os : Os) (started : os.Started) (H : Type) (enc : TypeId × Value → H) :
    ReturnsInHanded {} Tryd.checked os 4 .any (fun w args => (Rows.indexSeeksSpec.pre enc Tryd.prog Tryd.f4 [] false w args ∧ laidMetH Tryd.prog laid1 w) ∧ sizedMet enc Tryd.prog Tryd.f4 (OpenSpec.ofChange Rows.indexSeeksSpec) false w args) (Rows.indexSeeksSpec.post enc Tryd.prog Tryd.f4 false true false false) := by
  refine returnsInHanded_of_change_and (C := Tryd.checked) (X := fun w _ => laidMetH Tryd.prog laid1 w) (fun _ _ _ hh h => h.of_heap hh) own started (by kernel_rfl) Tryd.func4
    (ChangeSpec.witness_shaped (enc := enc) (C := Tryd.checked) (os := os) (X := fun w _ => laidMetH Tryd.prog laid1 w) false (World.doorLaid Tryd.prog 400 os) #[.slice none 0 0, .slice none 0 0, .int .i64 0] 8 rfl (World.shaped_of_RefB (by kernel_rfl) (by kernel_rfl)) (by kernel_rfl) (by kernel_rfl) (by kernel_rfl) (door_met os _)) ?_
  intro W base args ds gs before hval0 hW _ _ hL _
  have hval : ∀ (j : Nat) t v, Tryd.f4.params[j]? = some t → args[j]? = some v → Value.okWide Tryd.prog W .any base t v := hval0
  have hW' := hW
  obtain ⟨p, q, hA0, hV, rfl, hfz, hnd⟩ := hW
  have hA : DataW.TrodAll enc Tryd.prog W 0 (fun _ => true) true Tryd.f4.params.toList args.toList ds p := hA0
  rw [Tryd.params4] at hA hval
  obtain ⟨v0, vs0, d0, ds0, p0, q0, hargs, rfl, rfl, h0, r0⟩ := trodAll_cons hA
  obtain ⟨v1, vs1, d1, ds1, p1, q1, rfl, rfl, rfl, h1, r1⟩ := trodAll_cons r0
  obtain ⟨v2, vs2, d2, ds2, p2, q2, rfl, rfl, rfl, h2, r2⟩ := trodAll_cons r1
  obtain ⟨rfl, rfl, rfl⟩ := trodAll_nil r2
  obtain rfl : args = #[v0, v1, v2] := by cases args; simp_all
  obtain ⟨rfl, rfl⟩ := trodVars_none hV
  have k0 := h0
  have lt0 : ∀ x ∈ p0, x.block < W.heap.size := by obtain ⟨m, hm⟩ := k0; exact DataW.trod_lt m _ _ _ hm
  obtain ⟨a0, cap0, z0, rfl, w0⟩ := marks_came (hval 0 27 v0 rfl rfl) h0
  obtain ⟨a1, len1, cap1, rfl⟩ := okWide_slice Tryd.underlying33 (hval 1 33 v1 rfl rfl)
  have k1 := h1
  have lt1 : ∀ x ∈ p1, x.block < W.heap.size := by obtain ⟨m, hm⟩ := k1; exact DataW.trod_lt m _ _ _ hm
  obtain ⟨z1, w1⟩ : ∃ zs, IsRow .u8 W a1 len1 cap1 zs := by
    obtain ⟨fuel, hf⟩ := h1
    rcases open_ints Tryd.underlying33 Tryd.underlying5 (by kernel_rfl) hf with ⟨hcs, _⟩ | ⟨x, l, c, zs, hcs, _, hl, hm, hz, _, hcell, hwz⟩
    · simp [Value.cells] at hcs
      obtain ⟨rfl, rfl, rfl⟩ := hcs
      exact ⟨[], .inl ⟨rfl, rfl, rfl, rfl⟩⟩
    · simp [Value.cells] at hcs
      obtain ⟨rfl, rfl, rfl⟩ := hcs
      exact ⟨zs, .inr ⟨_, rfl, hl, hm, by simpa using hz, hcell, hwz⟩⟩
  obtain ⟨a2, rfl, rfl, rfl, w2⟩ := open_int Tryd.underlying3 (hval 2 3 v2 rfl rfl) h2
  clear hA0 hval0
  refine (walk a0 cap0 z0 a1 len1 cap1 z1 a2 W (of_laid hL) w0 w1 w2).mono fun e W' ⟨he, bel⟩ => ?_
  subst he
  exact ⟨_, rfl, _, _, _, [], _, [], hW', trodAll_mk1 (shut_bool Tryd.underlying4 _), (trodAll_cons_mk (Below.trod laidOut (by kernel_rfl) (of_decide_eq_true (by kernel_rfl)) k0 bel lt0) (trodAll_cons_mk (Below.trod laidOut (by kernel_rfl) (of_decide_eq_true (by kernel_rfl)) k1 bel lt1) (trodAll_cons_mk (shut_int Tryd.underlying3 w2) trodAll_mk0))), rfl, bel.frame _, fun h => by cases h⟩

theorem over : Rows.indexSeeksRow.holds Tryd.pinned (OpenSpec.ofChange Rows.indexSeeksSpec) :=
  OpenClaim.holds_of_wide 4 Tryd.f4 rfl rfl rfl rfl rfl rfl rfl ⟨rfl, rfl, rfl, rfl, rfl⟩ rfl rfl rfl rfl rfl (by kernel_rfl) Tryd.func4 (by kernel_rfl)
    (of_decide_eq_true (by kernel_rfl)) (by unfold Func.isWrapper; first | (rw [if_pos (by decide +kernel)]; kernel_rfl) | (rw [if_neg (by decide +kernel)]; exact ⟨rfl, rfl⟩))
    (fun os started H enc _ => lifted os started H enc)

theorem proved : Rows.IndexSeeksCardSaid :=
  Claim7.holds_tied_plain_at .later [] [.data] true (true, "cd441d64ee8463f8884ecdcc991c73fc74c9d8fee24340197352aeb24f58c16e") false
    over (fun _ h => by cases h) (by kernel_rfl) (fun _ h => by cases h) indexSeeks_row_tie rfl ⟨rfl, rfl⟩ (by kernel_rfl) rfl
    (fun f fn hf hfn => by
      obtain rfl : f = 4 := Option.some.inj ((show Tryd.prog.funcNamed "cooperage/cooperagelaw9.IndexSeeks" = some 4 by kernel_rfl).symm.trans hf) |>.symm
      obtain rfl : fn = Tryd.f4 := (Option.some.inj (Tryd.func4.symm.trans hfn)).symm
      exact ⟨by kernel_rfl, fun j t ht => by
        rw [Tryd.params4] at ht
        have hm : t ∈ [27, 33, 3] := by simpa using Array.mem_of_getElem? ht
        have hall : ([27, 33, 3].all fun u => !Tryd.prog.wantsStandIn u) = true := by kernel_rfl
        exact (show Tryd.prog.wantsStandIn t = false by simpa using List.all_eq_true.1 hall t hm)⟩)
    (by kernel_rfl)
#print axioms proved
end Go.Proofs.YtffmfgbjlijpeaaDoor.indexSeeks
