/- Proved: for every list l of records, every list gaps of numbers and all numbers every and n, IndexFinds(l, gaps, every, n) returns true. -/
import Derived.Test.YtffmfgbjlijpeaaDoorRows
import Derived.WalkKit
import Derived.ProofKit
import Derived.OpenShut
import Derived.ShutString
import Derived.ChangeOld
import Derived.Below
import Derived.LaidMore
import Derived.Stop.Joined
import Derived.SevenTiedAt
import Derived.Deep.DeepCutAuto
import Derived.Test.YtffmfgbjlijpeaaDoorCards
import Derived.Test.YtffmfgbjlijpeaaDoorTie
import Derived.Test.YtffmfgbjlijpeaaDoorCame
import Derived.Test.YtffmfgbjlijpeaaDoorFindsNum
import Derived.Test.YtffmfgbjlijpeaaDoorIxFound
import Derived.Test.YtffmfgbjlijpeaaDoorIxAlive
import Derived.Test.YtffmfgbjlijpeaaDoorRSegBytes
import Derived.Test.YtffmfgbjlijpeaaDoorCrcLaid
namespace Go.Proofs.YtffmfgbjlijpeaaDoor.indexFinds
open Go.ChangeShapes Go.WideShapes Go.ChangeAt Go.RowKit
open Go.ChangeMaps (open_string shut_string)
set_option linter.unusedVariables false

theorem own : ownKnob Tryd.prog.godebug = none := by kernel_rfl
theorem laidOut : laidOutB Tryd.prog = true := by kernel_rfl

def IsRow (k : IntKind) (w : World) (a : Option Addr) (len cap : Nat) (zs : List Int) : Prop :=
  (a = none ∧ len = 0 ∧ cap = 0 ∧ zs = []) ∨
  ∃ x, a = some x ∧ len ≤ cap ∧ cap ≤ maxLen ∧ zs.length = cap ∧ (∀ i, i < zs.length → w.cell? (x.add i) = some (.int k (zs.getD i 0))) ∧ ∀ n ∈ zs, (Lit.int k n).wf = true

set_option maxHeartbeats 6400000 in
set_option maxRecDepth 4000 in
theorem walk (a0 : Option Addr) (cap0 : Nat) (z0 : List Rec) (a1 : Option Addr) (len1 cap1 : Nat) (z1 : List Int) (a2 : Int) (a3 : Int) (w : World) (hh : Half w) (w0 : RecsLie w a0 z0 cap0) (w1 : IsRow .i64 w a1 len1 cap1 z1) (w2 : (Lit.int .i64 a2).wf = true) (w3 : (Lit.int .i64 a3).wf = true) :
    Calls Tryd.prog 5 #[.slice a0 z0.length cap0, .slice a1 len1 cap1, .int .i64 a2, .int .i64 a3] w fun e w' => e = .returned (.bool true) ∧ Below w.heap.size w w' := by
  obtain ⟨gs, rfl, hgc, hgm, hgl, hgwf, _⟩ := row_came w1
  obtain ⟨hr0, hr1⟩ := bounds_i64 w2
  have HACT := Lib.hid w0
  have hcl := w0.2.1
  have hcm := w0.2.2.1
  have h0 := hh.pos
  unfold maxLen at hcm hgm
  have HBG := Lib.hid (fun wA (hb : Below w.heap.size w wA) => big_any w wA a0 z0 cap0 w0 hb)
  have HAL := Lib.hid (alive9_any w hh)
  have HH := Lib.hid hh
  have HGL := Lib.hid hgl
  clear w0 w1 w2 w3 hh hgl hgwf hr0
  go_enter Tryd.func5, Tryd.ntmps5
  go_wp2_with fail
  refine HAL.out.mono ?_
  rintro e wA ⟨rfl, hbel⟩
  have HB := Lib.hid (HBG.out wA hbel)
  have HBEL := Lib.hid hbel
  clear hbel HAL HBG
  go_wp2_with fail
  refine HB.out.mono ?_
  rintro e wB ⟨hwB, r, rfl, hsm⟩
  have HBEL2 : Hid (Below w.heap.size w wB) := Lib.hid (by rw [hwB]; exact HBEL.out)
  have HSM := Lib.hid hsm
  clear HB hsm HBEL hwB wA
  cases r
  · have hlen := Lib.hid (HSM.out rfl).1
    by_cases hsh : gs.length < z0.length
    · have hq : decide ((gs.length : Int) < (z0.length : Int)) = true := decide_eq_true (by omega)
      go_wp2
      go_ret
      exact ⟨rfl, HBEL2.out⟩
    · have hq : decide ((gs.length : Int) < (z0.length : Int)) = false := decide_eq_false (by omega)
      have hq' : decide (gs.length < z0.length) = false := decide_eq_false (by omega)
      have hgz : z0.length ≤ gs.length := by omega
      have HGZ := Lib.hid hgz
      clear hsh HSM
      go_wp2_with fail
      clear hq hq'
      go_loopw [11, 12, 13] (fun v ov iv wr => ∃ i : Nat, iv = .int .i64 i ∧ ov = .int .i64 (gapO gs i) ∧ i ≤ z0.length ∧ OwnR wr w.heap.size v (gapG gs z0 i) ∧ Below w.heap.size w wr) (fun _ _ iv _ => z0.length - (intOf iv).toNat)
      case atStart => exact ⟨0, rfl, rfl, Nat.zero_le _, OwnR.nil, HBEL2.out⟩
      case round =>
        obtain ⟨i, rfl, rfl, hi, hown, hbel⟩ := hrel
        have HO := Lib.hid hown
        have HB := Lib.hid hbel
        clear hown
        have hl60 := hlen.out
        by_cases hlt : i < z0.length
        · have hltg : i < gs.length := by have := HGZ.out; omega
          obtain ⟨b, off, rfl, hbl, hat⟩ := HACT.out.more hlt
          obtain ⟨g0, g1, g2, g3, g4⟩ := hat.keep (w' := wr) fun j => hbel.cell hbl
          obtain ⟨b5, o5, rfl, hbl5, hat5⟩ := HGL.out.at_ hltg
          have g5 : wr.cell? ⟨b5, o5 + i, none⟩ = some (.int .i64 gs[i]) := (hbel.cell (p := ⟨b5, o5 + i, none⟩) hbl5).trans hat5
          have HSN := Lib.hid (gapG_snoc gs z0 i hlt)
          have HSK := Lib.hid (gapG_skip gs z0 i hlt)
          have hst := gapO_step gs i hltg
          have hob := gapO_bound gs i
          obtain ⟨y, hy⟩ : ∃ y, gs[i] = y := ⟨_, rfl⟩
          rw [hy] at hst g5
          have hbit := i64_and7 y
          obtain ⟨D, hD⟩ : ∃ D, y % 8 = D := ⟨_, rfl⟩
          have hD0 : 0 ≤ D ∧ D ≤ 7 := by omega
          obtain ⟨O, hO⟩ : ∃ O, gapO gs i = O := ⟨_, rfl⟩
          rw [hD] at hst hbit
          rw [hO] at hst hob ⊢
          have hO0 : 0 ≤ O ∧ O ≤ 480 := by omega
          have HST := Lib.hid hst
          rw [hst] at HSN HSK
          obtain ⟨x, hx⟩ : ∃ x, z0[i] = x := ⟨_, rfl⟩
          rw [hx] at g0 g1 g2 g3 g4 HSN HSK
          obtain ⟨xo, xt, xk, xv, xd⟩ := x
          unfold numbered at HSN HSK
          dsimp only at g0 g1 g2 g3 g4 HSN HSK
          have g6 : (wr.alloc (.cells #[.int .i64 xo, .int .i64 xt, .string xk, .string xv, .bool xd] 35)).cell? ⟨b5, o5 + i, none⟩ = some (.int .i64 y) := (World.cell?_of_block (a := ⟨b5, o5 + i, none⟩) (Below.heap_alloc wr _ b5 (Nat.lt_of_lt_of_le hbl5 hbel.size))).trans g5
          have hb5 : b5 < wr.heap.size := Nat.lt_of_lt_of_le hbl5 hbel.size
          have HRT := Lib.hid (fun W => refright_any ⟨(O + 1 + D), xt, xk, xv, xd⟩ W)
          unfold recV at HRT
          dsimp only at HRT
          have hbs := hbel.size
          have HBX := Lib.hid (HB.out.alloc hbs (.cells #[.int .i64 (O + 1 + D), .int .i64 xt, .string xk, .string xv, .bool xd] 35))
          have HOX := Lib.hid (HO.out.alloc (.cells #[.int .i64 (O + 1 + D), .int .i64 xt, .string xk, .string xv, .bool xd] 35))
          have HLB : Hid ((gapG gs z0 i).length + 1 ≤ 1099511627776) := Lib.hid (by
            have := (gapG_facts gs z0 i).2.2
            omega)
          have HNW := Lib.hid (fun W (hb : Below (wr.alloc (.cells #[.int .i64 (O + 1 + D), .int .i64 xt, .string xk, .string xv, .bool xd] 35)).heap.size (wr.alloc (.cells #[.int .i64 (O + 1 + D), .int .i64 xt, .string xk, .string xv, .bool xd] 35)) W) => new_rec (w := wr) (W := W) (r := ⟨(O + 1 + D), xt, xk, xv, xd⟩) (t := 35) hb)
          clear hat hat5 hx hbl hbl5 hbel hy hD hO hst hltg hob
          by_cases hrt : (⟨(O + 1 + D), xt, xk, xv, xd⟩ : Rec).right
          · have HE := Lib.hid (HSN.out hrt)
            rw [decide_eq_true hrt] at HRT
            clear HSN HSK hrt
            go_wp2_with fail
            refine (HRT.out _).mono ?_
            rintro e w2 ⟨rfl, hb2⟩
            obtain ⟨b0, b1, b2, b3, b4⟩ := HNW.out w2 hb2
            simp only [Nat.zero_add] at b0 b1 b2 b3 b4
            have HO2 := Lib.hid (HOX.out.below hb2)
            have HB2 := Lib.hid (HBX.out.trans (hb2.mono HBX.out.size))
            have hz2 := HB2.out.size
            clear HRT hb2 HNW HOX HBX HO HB g0 g1 g2 g3 g4 g5 g6 hb5 hbit
            go_wp2_with (at_builtin; refine wpList_append_rec rfl (.tmp 62) (.tmp 64) rfl w.heap.size _ (gapG gs z0 i) rfl w2 ⟨(O + 1 + D), xt, xk, xv, xd⟩ rfl HO2.out rfl HLB.out hz2 ?_; intro v4 w4 hown4 hb4 _ _; have HO4 := Lib.hid hown4; have HB4 := Lib.hid hb4; clear hown4 hb4)
            go_roundw
            case rel =>
              exact ⟨i + 1, by go_num, by rw [HST.out], hlt, by rw [HE.out]; exact HO4.out, HB2.out.trans HB4.out⟩
            case measure => simp [intOf]; omega
          · have HE := Lib.hid (HSK.out hrt)
            rw [decide_eq_false hrt] at HRT
            clear HSN HSK hrt
            go_wp2_with fail
            refine (HRT.out _).mono ?_
            rintro e w2 ⟨rfl, hb2⟩
            have HO2 := Lib.hid (HOX.out.below hb2)
            have HB2 := Lib.hid (HBX.out.trans (hb2.mono HBX.out.size))
            clear HRT hb2 HNW HOX HBX HO HB g0 g1 g2 g3 g4 g5 g6 hb5 hbit
            go_wp2_with fail
            go_roundw
            case rel =>
              exact ⟨i + 1, by go_num, by rw [HST.out], hlt, by rw [HE.out]; exact HO2.out, HB2.out⟩
            case measure => simp [intOf]; omega
        · have hil : i = z0.length := by omega
          have HO0 := HO.out
          rw [hil] at HO0
          obtain ⟨hGr, hGri, hGl⟩ := gapG_facts gs z0 z0.length
          obtain ⟨G, hG⟩ : ∃ G, gapG gs z0 z0.length = G := ⟨_, rfl⟩
          rw [hG] at HO0 hGr hGri hGl
          have HRT := Lib.hid (fun r hr => (hGr r hr).1)
          have HRI := Lib.hid hGri
          obtain ⟨Ag, cg, rfl, pg, _⟩ := HO0.parts fun r hr => (HRT.out r hr).wf
          have hqi : ¬ (i : Int) < (z0.length : Int) := by omega
          obtain ⟨gl, hgle⟩ : ∃ gl, G.length = gl := ⟨_, rfl⟩
          have hgl60 : gl ≤ 60 := by omega
          have hcg := pg.2.1
          have hcgm := pg.2.2.1
          unfold maxLen at hcgm
          have PG := Lib.hid pg
          have HGE := Lib.hid hgle
          have HBT := Lib.hid (refbytes_any wr G Ag cg pg (by omega))
          have hsl : segL G = segF G := by unfold segL; rw [goods_all HRT.out]
          rw [hgle] at HBT hcg ⊢
          rw [hsl] at HBT
          obtain ⟨XS, hXS⟩ : ∃ XS, segF G = XS := ⟨_, rfl⟩
          have hxr : IsBytes XS := by rw [← hXS]; exact segF_range G HRT.out
          have hxl : XS.length ≤ 549755813888 := by
            have := segF_length G HRT.out
            rw [hXS, hgle] at this
            omega
          rw [hXS] at HBT
          have HXS := Lib.hid (And.intro hXS (And.intro hxr hxl))
          clear pg hgle HO0 HO hil hsl hXS hxr hxl hGr hGri hGl hG hl60 hlen
          go_wp2_with fail
          clear hqi
          refine HBT.out.mono ?_
          rintro e w2 ⟨v2, rfl, o2, b2⟩
          obtain ⟨A2, c2, rfl, q1, q2⟩ := o2.form
          have B2 := Lib.hid (HB.out.trans (b2.mono HB.out.size))
          have PG2 := Lib.hid (PG.out.below b2 (Nat.le_refl _))
          have hmk := vmake_any w2 (HH.out.below B2.out h0) G Ag cg PG2.out a2 hr1 (by rw [HGE.out]; omega)
          rw [HGE.out, goods_all HRT.out] at hmk
          have HMK := Lib.hid hmk
          have HX2 := Lib.hid (show ∀ W, Below w2.heap.size w2 W → Lies .u8 W W.heap.size A2 XS from fun W hb => (o2.lies.below hb).more hb.size)
          have HXO : Hid (A2 = none → c2 = 0) := Lib.hid (own_none o2)
          have HQ2 := Lib.hid (And.intro q1 q2)
          unfold maxLen at q2
          clear hmk o2 b2 HBT PG HB
          go_wp2_with fail
          refine HMK.out.mono ?_
          rintro e w3 ⟨v3, rfl, o3, b3⟩
          obtain ⟨A3, c3, rfl, p3, _⟩ := OwnS.parts o3
          have q3 := p3.2.1
          have q4 := p3.2.2
          unfold maxLen at q4
          have HM3 := Lib.hid (p3.mono (T := fun b => b < w3.heap.size) fun b hb => by
            rcases hb with hb | hb
            · exact hb.elim
            · exact (OwnS.lt o3 b hb).2)
          have B3 := Lib.hid (B2.out.trans (b3.mono B2.out.size))
          have PG3 := Lib.hid (PG2.out.below b3 (Nat.le_refl _))
          have HX3 := Lib.hid (fun W hb => HX2.out W (b3.trans (Below.mono hb b3.size)))
          obtain ⟨MS, hMS⟩ : ∃ MS, makeM (evN a2) G = MS := ⟨_, rfl⟩
          rw [hMS] at HM3 q3 ⊢
          have HMS := Lib.hid hMS
          have HF1 := Lib.hid (fun W (hb : Below w3.heap.size w3 W) => vfind_any (fun b => b < w3.heap.size) A2 XS c2 A3 MS c3 a3 W (HH.out.below (B3.out.trans (hb.mono B3.out.size)) h0) (HM3.out.below hb fun _ h => h) (fun b h => Nat.lt_of_lt_of_le h hb.size) (HX3.out W hb) HXS.out.2.1 HQ2.out.1 HQ2.out.2 HXO.out HXS.out.2.2)
          have HF2 := Lib.hid (fun W (hb : Below w3.heap.size w3 W) => vfindtime_any (fun b => b < w3.heap.size) A2 XS c2 A3 MS c3 a3 W (HH.out.below (B3.out.trans (hb.mono B3.out.size)) h0) (HM3.out.below hb fun _ h => h) (fun b h => Nat.lt_of_lt_of_le h hb.size) (HX3.out W hb) HXS.out.2.1 HQ2.out.1 HQ2.out.2 HXO.out HXS.out.2.2)
          clear p3 o3 b3 hMS HMK HX2 PG2 B2 HH
          go_wp2_with fail
          refine (HF1.out w3 (Below.refl _ _)).mono ?_
          rintro e w4 ⟨rs1, k1, hs1, _, hf1⟩
          have hfo := found_offset (evN_pos a2) G HRT.out HRI.out a3 (rs := rs1) (k := k1) (by rw [HMS.out, HXS.out.1]; exact hs1)
          rw [hfo] at hf1
          obtain ⟨rfl, b4⟩ := found_form hf1
          obtain ⟨F1, hF1⟩ : ∃ o, G.find? (geO a3) = o := ⟨_, rfl⟩
          rw [hF1]
          obtain ⟨R1, hR1⟩ : ∃ r, F1.getD zeroR = r := ⟨_, rfl⟩
          obtain ⟨I1, hI1⟩ : ∃ b, F1.isSome = b := ⟨_, rfl⟩
          rw [hR1, hI1]
          have HK1 := Lib.hid (And.intro hF1 (And.intro hR1 hI1))
          obtain ⟨R1o, R1t, R1k, R1v, R1d⟩ := R1
          dsimp only
          have B4 := Lib.hid (b4.trans (((Below.refl w4.heap.size w4).alloc (Nat.le_refl _) (.cells #[.int .i64 R1o, .int .i64 R1t, .string R1k, .string R1v, .bool R1d] 35)).mono b4.size))
          have N4 := Lib.hid (fun W hb => new_rec (w := w4) (W := W) (r := ⟨R1o, R1t, R1k, R1v, R1d⟩) (t := 35) hb)
          dsimp only at N4
          clear hs1 hf1 hfo b4 hF1 hR1 hI1 HF1
          go_wp2_with fail
          refine (HF2.out _ B4.out).mono ?_
          rintro e w5 ⟨rs2, k2, hs2, _, hf2⟩
          have hfo := found_time (evN_pos a2) G HRT.out HRI.out a3 (rs := rs2) (k := k2) (by rw [HMS.out, HXS.out.1]; exact hs2)
          rw [hfo] at hf2
          obtain ⟨rfl, b5⟩ := found_form hf2
          obtain ⟨F2, hF2⟩ : ∃ o, G.find? (geT a3) = o := ⟨_, rfl⟩
          rw [hF2]
          obtain ⟨R2, hR2⟩ : ∃ r, F2.getD zeroR = r := ⟨_, rfl⟩
          obtain ⟨I2, hI2⟩ : ∃ b, F2.isSome = b := ⟨_, rfl⟩
          rw [hR2, hI2]
          have HK2 := Lib.hid (And.intro hF2 (And.intro hR2 hI2))
          obtain ⟨R2o, R2t, R2k, R2v, R2d⟩ := R2
          dsimp only
          have N5 := Lib.hid (keep_new (o := .cells #[.int .i64 R2o, .int .i64 R2t, .string R2k, .string R2v, .bool R2d] 35) N4.out b5)
          have N6 := Lib.hid (fun W hb => new_rec (w := w5) (W := W) (r := ⟨R2o, R2t, R2k, R2v, R2d⟩) (t := 35) hb)
          dsimp only at N6
          have B5a := B4.out.trans (b5.mono B4.out.size)
          have B5 := Lib.hid (B5a.alloc B5a.size (.cells #[.int .i64 R2o, .int .i64 R2t, .string R2k, .string R2v, .bool R2d] 35))
          have PG5 := Lib.hid (PG3.out.below B5.out (Nat.le_refl _))
          have BF := Lib.hid (B3.out.trans (B5.out.mono B3.out.size))
          have HA1 := Lib.hid (N5.out _ (Below.refl _ _))
          have HA2 := Lib.hid (N6.out _ (Below.refl _ _))
          clear hs2 hf2 hfo b5 B5a hF2 hR2 hI2 HF2 N4 N5 N6 B4 B5 PG3 HM3 HX3 B3
          go_wp2_with fail
          obtain ⟨g1, hg1⟩ : ∃ g, w4.heap.size = g := ⟨_, rfl⟩
          obtain ⟨g2, hg2⟩ : ∃ g, w5.heap.size = g := ⟨_, rfl⟩
          rw [hg1] at HA1 ⊢
          rw [hg2] at HA2 ⊢
          generalize w5.alloc (.cells #[.int .i64 R2o, .int .i64 R2t, .string R2k, .string R2v, .bool R2d] 35) = W0 at *
          clear hg1 hg2 HMS HXS HQ2 HXO HRI HACT HGL HBEL2
          go_loopw [21, 22, 23] (fun fv ev iv wq => ∃ i m : Nat, iv = .int .i64 i ∧ fv = .bool (yet (geO a3) G i) ∧ ev = .bool (yet (geT a3) G i) ∧ i ≤ gl ∧ wq = W0.drewN m) (fun _ _ iv _ => gl - (intOf iv).toNat)
          case atStart => exact ⟨0, 0, rfl, rfl, rfl, Nat.zero_le _, rfl⟩
          case round =>
            obtain ⟨i, m, rfl, rfl, rfl, hi, rfl⟩ := hrel
            obtain ⟨f1, hf1⟩ : ∃ f, yet (geO a3) G i = f := ⟨_, rfl⟩
            obtain ⟨f2, hf2⟩ : ∃ f, yet (geT a3) G i = f := ⟨_, rfl⟩
            rw [hf1, hf2]
            by_cases hlt : i < gl
            · have hltG : i < G.length := by rw [HGE.out]; exact hlt
              obtain ⟨bg, og, rfl, z1, hat⟩ := PG5.out.more hltG
              have hn1 := yet_next (geO a3) G i hltG
              have hn2 := yet_next (geT a3) G i hltG
              have hh1 := yet_hit (geO a3) G i hltG
              have hh2 := yet_hit (geT a3) G i hltG
              rw [hf1] at hn1 hh1
              rw [hf2] at hn2 hh2
              obtain ⟨n1, hN1⟩ : ∃ n, yet (geO a3) G (i + 1) = n := ⟨_, rfl⟩
              obtain ⟨n2, hN2⟩ : ∃ n, yet (geT a3) G (i + 1) = n := ⟨_, rfl⟩
              rw [hN1] at hn1
              rw [hN2] at hn2
              obtain ⟨x, hx⟩ : ∃ x, G[i] = x := ⟨_, rfl⟩
              rw [hx] at hat hn1 hn2 hh1 hh2
              obtain ⟨xo, xt, xk, xv, xd⟩ := x
              have HCC := Lib.hid (fun q => (show RecAt (W0.drewN q) bg (og + i * 5) ⟨xo, xt, xk, xv, xd⟩ from hat))
              have HN1 := Lib.hid (show (f1 && !decide (a3 ≤ xo)) = n1 from hn1.symm)
              have HN2 := Lib.hid (show (f2 && !decide (a3 ≤ xt)) = n2 from hn2.symm)
              have HH1 := Lib.hid (fun (h1 : f1 = true) (h2 : a3 ≤ xo) => hh1 h1 (decide_eq_true h2))
              have HH2 := Lib.hid (fun (h1 : f2 = true) (h2 : a3 ≤ xt) => hh2 h1 (decide_eq_true h2))
              obtain ⟨c1, hc1⟩ : ∃ c, (f1 && decide (a3 ≤ xo)) = c := ⟨_, rfl⟩
              obtain ⟨c2', hc2⟩ : ∃ c, (f2 && decide (a3 ≤ xt)) = c := ⟨_, rfl⟩
              have HC1 := Lib.hid hc1
              have HC2 := Lib.hid hc2
              have HYN := Lib.hid (And.intro hN1 hN2)
              clear hf1 hf2 z1 hat hn1 hn2 hh1 hh2 hN1 hN2 hx hc1 hc2 hltG
              go_upto_region 24 with fail
              go_cut [100] (fun c wz => c = .bool c1 ∧ wz = W0.drewN m)
              case first =>
                obtain ⟨k0, k1, k2, k3, k4⟩ := HCC.out m
                cases f1
                · go_wp2_with fail
                  go_meet
                  exact ⟨by rw [← HC1.out]; rfl, rfl⟩
                · by_cases ho : a3 ≤ xo
                  · have hqo : decide (a3 ≤ xo) = true := decide_eq_true ho
                    go_wp2_with fail
                    go_meet
                    exact ⟨by rw [← HC1.out, show decide (a3 ≤ xo) = true from decide_eq_true (by omega)]; rfl, rfl⟩
                  · have hqo : decide (a3 ≤ xo) = false := decide_eq_false ho
                    go_wp2_with fail
                    go_meet
                    exact ⟨by rw [← HC1.out, show decide (a3 ≤ xo) = false from decide_eq_false (by omega)]; rfl, rfl⟩
              case rest =>
              obtain ⟨rfl, hwc⟩ := hcut
              subst hwc
              go_upto_if 100 with fail
              go_cut [21] (fun f wz => f = .bool n1 ∧ ∃ q, wz = W0.drewN q)
              case first =>
                cases c1
                · have hn : n1 = f1 := by
                    have h1 := HC1.out
                    rw [← HN1.out]
                    cases f1
                    · rfl
                    · simp only [Bool.true_and] at h1
                      rw [h1]
                      rfl
                  go_wp2_with fail
                  go_meet
                  exact ⟨by rw [hn], m, rfl⟩
                · have h1 := HC1.out
                  simp only [Bool.and_eq_true, decide_eq_true_eq] at h1
                  obtain ⟨h1a, h1b⟩ := h1
                  have hn : n1 = false := by
                    rw [← HN1.out, h1a, decide_eq_true h1b]
                    rfl
                  have e1 := HK1.out.1.symm.trans (HH1.out h1a h1b)
                  obtain ⟨_, e2, e3⟩ := HK1.out
                  rw [e1] at e2 e3
                  have e4 : I1 = true := e3.symm
                  have e5 : (⟨xo, xt, xk, xv, xd⟩ : Rec) = ⟨R1o, R1t, R1k, R1v, R1d⟩ := e2
                  injection e5 with d0 d1 d2 d3 d4
                  obtain ⟨k0, k1, k2, k3, k4⟩ := HCC.out m
                  obtain ⟨r0, r1, r2, r3, r4⟩ := HA1.out
                  simp only [Nat.zero_add] at r0 r1 r2 r3 r4
                  have r0' : (W0.drewN m).cell? ⟨g1, 0, none⟩ = some (.int .i64 xo) := by rw [d0]; exact r0
                  have r1' : (W0.drewN m).cell? ⟨g1, 1, none⟩ = some (.int .i64 xt) := by rw [d1]; exact r1
                  have r2' : (W0.drewN m).cell? ⟨g1, 2, none⟩ = some (.string xk) := by rw [d2]; exact r2
                  have r3' : (W0.drewN m).cell? ⟨g1, 3, none⟩ = some (.string xv) := by rw [d3]; exact r3
                  have r4' : (W0.drewN m).cell? ⟨g1, 4, none⟩ = some (.bool xd) := by rw [d4]; exact r4
                  have HW := Lib.hid (fun n => World.drewN_drewN W0 m n)
                  have s1 : (xo != xo) = false := by simp
                  have s2 : (xt != xt) = false := by simp
                  have s3 : (xk.toList != xk.toList) = false := by simp
                  have s4 : (xv.toList != xv.toList) = false := by simp
                  have s5 : (xd != xd) = false := by simp
                  clear r0 r1 r2 r3 r4 d0 d1 d2 d3 d4 e1 e2 e3 h1a h1b
                  subst e4
                  generalize W0.drewN m = W1 at *
                  go_wp2_with fail
                  go_quiet (fail)
                  go_wp2
                  go_meet
                  exact ⟨by rw [hn], m + nq, HW.out nq⟩
              case rest =>
              obtain ⟨rfl, q, hwc⟩ := hcut
              subst hwc
              go_upto_region 28 with fail
              go_cut [120] (fun c wz => c = .bool c2' ∧ wz = W0.drewN q)
              case first =>
                obtain ⟨k0, k1, k2, k3, k4⟩ := HCC.out q
                cases f2
                · go_wp2_with fail
                  go_meet
                  exact ⟨by rw [← HC2.out]; rfl, rfl⟩
                · by_cases ho : a3 ≤ xt
                  · have hqo : decide (a3 ≤ xt) = true := decide_eq_true ho
                    go_wp2_with fail
                    go_meet
                    exact ⟨by rw [← HC2.out, show decide (a3 ≤ xt) = true from decide_eq_true (by omega)]; rfl, rfl⟩
                  · have hqo : decide (a3 ≤ xt) = false := decide_eq_false ho
                    go_wp2_with fail
                    go_meet
                    exact ⟨by rw [← HC2.out, show decide (a3 ≤ xt) = false from decide_eq_false (by omega)]; rfl, rfl⟩
              case rest =>
              obtain ⟨rfl, hwc⟩ := hcut
              subst hwc
              go_upto_if 120 with fail
              cases c2'
              · have hn : n2 = f2 := by
                  have h1 := HC2.out
                  rw [← HN2.out]
                  cases f2
                  · rfl
                  · simp only [Bool.true_and] at h1
                    rw [h1]
                    rfl
                go_wp2_with fail
                go_roundw
                case rel => exact ⟨i + 1, q, by go_num, by rw [HYN.out.1], by rw [HYN.out.2, hn], hlt, rfl⟩
                case measure => simp [intOf]; omega
              · have h1 := HC2.out
                simp only [Bool.and_eq_true, decide_eq_true_eq] at h1
                obtain ⟨h1a, h1b⟩ := h1
                have hn : n2 = false := by
                  rw [← HN2.out, h1a, decide_eq_true h1b]
                  rfl
                have e1 := HK2.out.1.symm.trans (HH2.out h1a h1b)
                obtain ⟨_, e2, e3⟩ := HK2.out
                rw [e1] at e2 e3
                have e4 : I2 = true := e3.symm
                have e5 : (⟨xo, xt, xk, xv, xd⟩ : Rec) = ⟨R2o, R2t, R2k, R2v, R2d⟩ := e2
                injection e5 with d0 d1 d2 d3 d4
                obtain ⟨k0, k1, k2, k3, k4⟩ := HCC.out q
                obtain ⟨r0, r1, r2, r3, r4⟩ := HA2.out
                simp only [Nat.zero_add] at r0 r1 r2 r3 r4
                have r0' : (W0.drewN q).cell? ⟨g2, 0, none⟩ = some (.int .i64 xo) := by rw [d0]; exact r0
                have r1' : (W0.drewN q).cell? ⟨g2, 1, none⟩ = some (.int .i64 xt) := by rw [d1]; exact r1
                have r2' : (W0.drewN q).cell? ⟨g2, 2, none⟩ = some (.string xk) := by rw [d2]; exact r2
                have r3' : (W0.drewN q).cell? ⟨g2, 3, none⟩ = some (.string xv) := by rw [d3]; exact r3
                have r4' : (W0.drewN q).cell? ⟨g2, 4, none⟩ = some (.bool xd) := by rw [d4]; exact r4
                have HW := Lib.hid (fun n => World.drewN_drewN W0 q n)
                have s1 : (xo != xo) = false := by simp
                have s2 : (xt != xt) = false := by simp
                have s3 : (xk.toList != xk.toList) = false := by simp
                have s4 : (xv.toList != xv.toList) = false := by simp
                have s5 : (xd != xd) = false := by simp
                clear r0 r1 r2 r3 r4 d0 d1 d2 d3 d4 e1 e2 e3 h1a h1b
                subst e4
                generalize W0.drewN q = W1 at *
                go_wp2_with fail
                go_quiet (fail)
                go_wp2
                go_roundw
                case rel => exact ⟨i + 1, q + nq, by go_num, by rw [HYN.out.1], by rw [HYN.out.2, hn], hlt, HW.out nq⟩
                case measure => simp [intOf]; omega
            · obtain rfl : i = gl := by omega
              have hy1 := yet_end (geO a3) G
              have hy2 := yet_end (geT a3) G
              rw [HGE.out, hf1, HK1.out.1, HK1.out.2.2] at hy1
              rw [HGE.out, hf2, HK2.out.1, HK2.out.2.2] at hy2
              have hfin : Below w.heap.size w (W0.drewN m) := below_drewN BF.out m
              clear hf1 hf2 HK1 HK2
              subst hy1 hy2
              cases f1 <;> cases f2 <;> (go_wp2; go_ret; exact ⟨rfl, hfin⟩)
  · go_wp2
    go_ret
    exact ⟨rfl, HBEL2.out⟩

set_option maxRecDepth 100000 in
theorem lifted (os : Os) (started : os.Started) (H : Type) (enc : TypeId × Value → H) :
    ReturnsInHanded {} Tryd.checked os 5 .any (fun w args => (Rows.indexFindsSpec.pre enc Tryd.prog Tryd.f5 [] false w args ∧ laidMetH Tryd.prog laid1 w) ∧ sizedMet enc Tryd.prog Tryd.f5 (OpenSpec.ofChange Rows.indexFindsSpec) false w args) (Rows.indexFindsSpec.post enc Tryd.prog Tryd.f5 false true false false) := by
  refine returnsInHanded_of_change_and (C := Tryd.checked) (X := fun w _ => laidMetH Tryd.prog laid1 w) (fun _ _ _ hh h => h.of_heap hh) own started (by kernel_rfl) Tryd.func5
    (ChangeSpec.witness_shaped (enc := enc) (C := Tryd.checked) (os := os) (X := fun w _ => laidMetH Tryd.prog laid1 w) false (World.doorLaid Tryd.prog 400 os) #[.slice none 0 0, .slice none 0 0, .int .i64 0, .int .i64 0] 8 rfl (World.shaped_of_RefB (by kernel_rfl) (by kernel_rfl)) (by kernel_rfl) (by kernel_rfl) (by kernel_rfl) (door_met os _)) ?_
  intro W base args ds gs before hval0 hW _ _ hL _
  have hval : ∀ (j : Nat) t v, Tryd.f5.params[j]? = some t → args[j]? = some v → Value.okWide Tryd.prog W .any base t v := hval0
  have hW' := hW
  obtain ⟨p, q, hA0, hV, rfl, hfz, hnd⟩ := hW
  have hA : DataW.TrodAll enc Tryd.prog W 0 (fun _ => true) true Tryd.f5.params.toList args.toList ds p := hA0
  rw [Tryd.params5] at hA hval
  obtain ⟨v0, vs0, d0, ds0, p0, q0, hargs, rfl, rfl, h0, r0⟩ := trodAll_cons hA
  obtain ⟨v1, vs1, d1, ds1, p1, q1, rfl, rfl, rfl, h1, r1⟩ := trodAll_cons r0
  obtain ⟨v2, vs2, d2, ds2, p2, q2, rfl, rfl, rfl, h2, r2⟩ := trodAll_cons r1
  obtain ⟨v3, vs3, d3, ds3, p3, q3, rfl, rfl, rfl, h3, r3⟩ := trodAll_cons r2
  obtain ⟨rfl, rfl, rfl⟩ := trodAll_nil r3
  obtain rfl : args = #[v0, v1, v2, v3] := by cases args; simp_all
  obtain ⟨rfl, rfl⟩ := trodVars_none hV
  have k0 := h0
  have lt0 : ∀ x ∈ p0, x.block < W.heap.size := by obtain ⟨m, hm⟩ := k0; exact DataW.trod_lt m _ _ _ hm
  obtain ⟨a0, cap0, z0, rfl, w0⟩ := recs_came (hval 0 22 v0 rfl rfl) h0
  obtain ⟨a1, len1, cap1, rfl⟩ := okWide_slice Tryd.underlying42 (hval 1 42 v1 rfl rfl)
  have k1 := h1
  have lt1 : ∀ x ∈ p1, x.block < W.heap.size := by obtain ⟨m, hm⟩ := k1; exact DataW.trod_lt m _ _ _ hm
  obtain ⟨z1, w1⟩ : ∃ zs, IsRow .i64 W a1 len1 cap1 zs := by
    obtain ⟨fuel, hf⟩ := h1
    rcases open_ints Tryd.underlying42 Tryd.underlying3 (by kernel_rfl) hf with ⟨hcs, _⟩ | ⟨x, l, c, zs, hcs, _, hl, hm, hz, _, hcell, hwz⟩
    · simp [Value.cells] at hcs
      obtain ⟨rfl, rfl, rfl⟩ := hcs
      exact ⟨[], .inl ⟨rfl, rfl, rfl, rfl⟩⟩
    · simp [Value.cells] at hcs
      obtain ⟨rfl, rfl, rfl⟩ := hcs
      exact ⟨zs, .inr ⟨_, rfl, hl, hm, by simpa using hz, hcell, hwz⟩⟩
  obtain ⟨a2, rfl, rfl, rfl, w2⟩ := open_int Tryd.underlying3 (hval 2 3 v2 rfl rfl) h2
  obtain ⟨a3, rfl, rfl, rfl, w3⟩ := open_int Tryd.underlying3 (hval 3 3 v3 rfl rfl) h3
  clear hA0 hval0
  refine (walk a0 cap0 z0 a1 len1 cap1 z1 a2 a3 W (of_laid hL) w0 w1 w2 w3).mono fun e W' ⟨he, bel⟩ => ?_
  subst he
  exact ⟨_, rfl, _, _, _, [], _, [], hW', trodAll_mk1 (shut_bool Tryd.underlying4 _), (trodAll_cons_mk (Below.trod laidOut (by kernel_rfl) (of_decide_eq_true (by kernel_rfl)) k0 bel lt0) (trodAll_cons_mk (Below.trod laidOut (by kernel_rfl) (of_decide_eq_true (by kernel_rfl)) k1 bel lt1) (trodAll_cons_mk (shut_int Tryd.underlying3 w2) (trodAll_cons_mk (shut_int Tryd.underlying3 w3) trodAll_mk0)))), rfl, bel.frame _, fun h => by cases h⟩

theorem over : Rows.indexFindsRow.holds Tryd.pinned (OpenSpec.ofChange Rows.indexFindsSpec) :=
  OpenClaim.holds_of_wide 5 Tryd.f5 rfl rfl rfl rfl rfl rfl rfl ⟨rfl, rfl, rfl, rfl, rfl⟩ rfl rfl rfl rfl rfl (by kernel_rfl) Tryd.func5 (by kernel_rfl)
    (of_decide_eq_true (by kernel_rfl)) (by unfold Func.isWrapper; first | (rw [if_pos (by decide +kernel)]; kernel_rfl) | (rw [if_neg (by decide +kernel)]; exact ⟨rfl, rfl⟩))
    (fun os started H enc _ => lifted os started H enc)

theorem proved : Rows.IndexFindsCardSaid :=
  Claim7.holds_tied_plain_at .later [] [.data] true (true, "cd441d64ee8463f8884ecdcc991c73fc74c9d8fee24340197352aeb24f58c16e") false
    over (fun _ h => by cases h) (by kernel_rfl) (fun _ h => by cases h) indexFinds_row_tie rfl ⟨rfl, rfl⟩ (by kernel_rfl) rfl
    (fun f fn hf hfn => by
      obtain rfl : f = 5 := Option.some.inj ((show Tryd.prog.funcNamed "cooperage/cooperagelaw9.IndexFinds" = some 5 by kernel_rfl).symm.trans hf) |>.symm
      obtain rfl : fn = Tryd.f5 := (Option.some.inj (Tryd.func5.symm.trans hfn)).symm
      exact ⟨by kernel_rfl, fun j t ht => by
        rw [Tryd.params5] at ht
        have hm : t ∈ [22, 42, 3, 3] := by simpa using Array.mem_of_getElem? ht
        have hall : ([22, 42, 3, 3].all fun u => !Tryd.prog.wantsStandIn u) = true := by kernel_rfl
        exact (show Tryd.prog.wantsStandIn t = false by simpa using List.all_eq_true.1 hall t hm)⟩)
    (by kernel_rfl)
#print axioms proved
end Go.Proofs.YtffmfgbjlijpeaaDoor.indexFinds
