/- A contract of the document's own Scan. -/
import Derived.Test.YtffmfgbjlijpeaaDoorRecs
import Derived.Deep.QuietTactic
import Derived.BigQuiet
import Derived.Test.YtffmfgbjlijpeaaDoorRRecGet
import Derived.Test.YtffmfgbjlijpeaaDoorRFr
namespace Go.Proofs.YtffmfgbjlijpeaaDoor
open Go.RowKit

theorem lastO_at {l : List Rec} (h : 0 < l.length) : lastO l = some (l[l.length - 1]'(by omega)).off := by
  have hne : l ≠ [] := by rintro rfl; simp at h
  unfold lastO
  rw [List.getLast?_eq_some_getLast hne, List.getLast_eq_getElem hne]
  rfl
theorem measure_lt {L k n : Nat} {z : Int} (h : z = ((k + n : Nat) : Int)) (h1 : k < L) (h2 : 5 ≤ n) : L - z.toNat < L - ((k : Nat) : Int).toNat := by rw [h]; omega
/-- What Scan answers. -/
def TellsSeg (xs : List Int) (w : World) (e : Ending) (w' : World) : Prop :=
  ∃ (v : Value) (rs : List Rec) (k : Nat), e = .returned (.tuple #[v, .int .i64 (k : Int)]) ∧ SegIs none xs rs k ∧ OwnR w' w.heap.size v rs ∧ (∀ r ∈ rs, r.right) ∧ k ≤ xs.length ∧ rs.length ≤ k ∧ Below w.heap.size w w'
set_option maxHeartbeats 3200000 in
set_option maxRecDepth 4000 in
theorem refscan_any (A : Option Addr) (xs : List Int) (c : Nat) (w : World) (hl : Lies .u8 w w.heap.size A xs) (hby : IsBytes xs) (hc : xs.length ≤ c) (hcm : c ≤ maxLen) (hxl : xs.length ≤ 549755813888) :
    Calls Tryd.prog 39 #[.slice A xs.length c] w (TellsSeg xs w) := by
  unfold maxLen at hcm
  have HXL := Lib.hid hxl
  go_enter Tryd.func39, Tryd.ntmps39
  go_wp2_with fail
  go_loopw [4, 5] (fun v av wr => ∃ (rs : List Rec) (k : Nat), av = .int .i64 k ∧ k ≤ xs.length ∧ rs.length ≤ k ∧ SegAt xs rs k ∧ OwnR wr w.heap.size v rs ∧ (∀ r ∈ rs, r.right) ∧ Below w.heap.size w wr)
    (fun _ av _ => xs.length - (intOf av).toNat)
  case atStart => exact ⟨[], 0, rfl, Nat.zero_le _, Nat.le_refl _, SegAt.start xs, OwnR.nil, (fun _ h => by cases h), Below.refl _ _⟩
  case round =>
    obtain ⟨rs, k, rfl, hk, hrk, hat, hown, hgood, hbel⟩ := hrel
    by_cases hlt : k < xs.length
    · obtain ⟨b, off, rfl, hbl, _⟩ := hl.at_ hlt
      have hck : ¬ c = k := by omega
      have hbs := hbel.size
      have hl2 : Lies .u8 wr wr.heap.size (some ⟨b, off + k, none⟩) (xs.drop k) := by
        have := ((hl.below hbel).more hbs).cut (n := k) hc
        rw [if_neg hck] at this
        simpa [add_lit] using this
      have hby2 : IsBytes (xs.drop k) := fun q hq => hby q (List.mem_of_mem_drop hq)
      have hdl : (xs.drop k).length = xs.length - k := List.length_drop ..
      have hg := reffget_any (some ⟨b, off + k, none⟩) (xs.drop k) (c - k) wr hl2 hby2 (by omega) (by unfold maxLen; omega)
      have hd0 : xs.drop k ≠ [] := by intro h0; have := congrArg List.length h0; rw [hdl, List.length_nil] at this; omega
      rw [hdl] at hg
      obtain ⟨p, m, e, hr⟩ : ∃ p m e, getFr (xs.drop k) = (p, m, e) := ⟨_, _, _, rfl⟩
      rw [hr] at hg
      have HG := Lib.hid hg
      have HR := Lib.hid hr
      clear hg hr hl2 hdl
      go_wp2_with fail
      refine HG.out.mono ?_
      rintro e' w2 ⟨v2, rfl, hown2, hbel2⟩
      clear HG
      dsimp only at hown2
      have HO := Lib.hid (hown.below hbel2)
      have HB := Lib.hid (hbel.trans (hbel2.mono hbs))
      have HGD := Lib.hid hgood
      clear hown hbel hgood
      by_cases he : e = 0
      · subst he
        obtain ⟨n, rfl, hn5, hnl, hpl, hpb⟩ := getFr_nat hby2 HR.out
        have hkn : k + n ≤ xs.length := by rw [List.length_drop] at hnl; omega
        have hst := stepM_of (last := lastO rs) hd0 HR.out
        obtain ⟨A2, c2, rfl, q1, q2⟩ := hown2.form
        have hgr := refgetrec_any A2 p c2 w2 hown2.lies hpb q1 q2
        obtain ⟨r, m2, f, hgt⟩ : ∃ r m2 f, getRec p = (r, m2, f) := ⟨_, _, _, rfl⟩
        rw [hgt] at hgr hst
        have HGT := Lib.hid hgt
        have HST := Lib.hid hst
        have HPB := Lib.hid hpb
        have HGR := Lib.hid hgr
        obtain ⟨pl, hple⟩ : ∃ pl, p.length = pl := ⟨_, rfl⟩
        rw [hple] at HGR q1 hpl ⊢
        have HPL := Lib.hid hple
        have HAT := Lib.hid hat
        have HLE := Lib.hid hrk
        clear hgt hst hpb hgr hown2 hat hby2 HR hple hd0 hnl
        obtain ⟨to, tt, tk, tv, td⟩ := r
        go_wp2_with fail
        refine HGR.out.mono ?_
        rintro e' w3 ⟨rfl, hb3⟩
        unfold recV
        dsimp only
        have hz2 := HB.out.size
        have HO3 := Lib.hid (HO.out.below hb3)
        have HB3 := Lib.hid (HB.out.trans (hb3.mono hz2))
        clear HGR hb3 HO HB
        have HKL := Lib.hid hk
        have HKN := Lib.hid hkn
        have HN5 := Lib.hid hn5
        have HRB : Hid (rs.length + 1 ≤ 1099511627776) := Lib.hid (by omega)
        have HLT := Lib.hid hlt
        have HWK : Hid (wrap64 ((k : Int) + (n : Int)) = ((k + n : Nat) : Int)) := Lib.hid (by unfold wrap64; omega)
        have HW0 : Hid (OwnR (w3.alloc (.cells #[.int .i64 to, .int .i64 tt, .string tk, .string tv, .bool td] 35)) w.heap.size u4 rs ∧ Below w.heap.size w (w3.alloc (.cells #[.int .i64 to, .int .i64 tt, .string tk, .string tv, .bool td] 35))) := Lib.hid ⟨HO3.out.alloc _, HB3.out.alloc HB3.out.size _⟩
        have hnew : ∀ j, (w3.alloc (.cells #[.int .i64 to, .int .i64 tt, .string tk, .string tv, .bool td] 35)).cell? ⟨w3.heap.size, j, none⟩ = (#[.int .i64 to, .int .i64 tt, .string tk, .string tv, .bool td] : Array Value)[j]? := fun j => by
          have : (w3.alloc (.cells #[.int .i64 to, .int .i64 tt, .string tk, .string tv, .bool td] 35)).heap[w3.heap.size]? = some (.cells #[.int .i64 to, .int .i64 tt, .string tk, .string tv, .bool td] 35) := by
            show (w3.heap.push _)[w3.heap.size]? = _
            simp
          unfold World.cell?
          rw [this]
          rfl
        have b0 := hnew 0
        have b1 := hnew 1
        have b2 := hnew 2
        have b3 := hnew 3
        have b4 := hnew 4
        simp only [List.getElem?_toArray, List.getElem?_cons_zero, List.getElem?_cons_succ] at b0 b1 b2 b3 b4
        clear hnew HO3 HB3
        obtain ⟨g, hgw⟩ : ∃ g, w3.heap.size = g := ⟨_, rfl⟩
        go_wp2_with fail
        rw [hgw] at b0 b1 b2 b3 b4
        generalize w3.alloc (.cells #[.int .i64 to, .int .i64 tt, .string tk, .string tv, .bool td] 35) = W0 at *
        clear hgw w3
        obtain ⟨HO0, HB0⟩ := HW0.out
        obtain ⟨Bo, co, rfl, hlie, hBo⟩ := HO0.parts fun r hr => (HGD.out r hr).wf
        have HK : Hid (∀ m, OwnR (W0.drewN m) w.heap.size (.slice Bo rs.length co) rs ∧ Below w.heap.size w (W0.drewN m)) := Lib.hid fun m => ⟨HO0, below_drewN HB0 m⟩
        have hlc := hlie.2.1
        have hlm := hlie.2.2.1
        unfold maxLen at hlm
        have HLI := Lib.hid hlie
        clear hlie hBo HW0 hk hkn hn5 hrk
        have hk := HKL.out
        by_cases hf : f = 0
        · subst hf
          obtain ⟨hright, hm2, _⟩ := getRec_back HPB.out HGT.out
          have HRT := Lib.hid hright
          obtain ⟨mm, hmm⟩ : ∃ mm, (recL (⟨to, tt, tk, tv, td⟩ : Rec)).length = mm := ⟨_, rfl⟩
          rw [hmm] at hm2
          subst hm2
          clear hright hmm
          by_cases hmp : mm = pl
          · subst hmp
            have hq1 : ((mm : Int) != (mm : Int)) = false := by simp
            have HST2 : Hid (stepM (lastO rs) (xs.drop k) = if falls (lastO rs) to = true then none else some (⟨to, tt, tk, tv, td⟩, n)) := Lib.hid (by
              have := HST.out
              simp only [HPL.out] at this
              simpa using this)
            clear HST
            by_cases h0 : rs.length = 0
            · have hrs : rs = [] := List.eq_nil_of_length_eq_zero h0
              have HST3 : Hid (stepM (lastO rs) (xs.drop k) = some (⟨to, tt, tk, tv, td⟩, n)) := Lib.hid (by rw [HST2.out, hrs]; simp [lastO, falls])
              clear hrs HLI
              have hl0 : decide ((0 : Int) < ((rs.length : Nat) : Int)) = false := decide_eq_false (by omega)
              obtain ⟨K, hK⟩ : ∃ K, rs.length = K := ⟨_, rfl⟩
              have HNX := Lib.hid (HAT.out.next HST3.out)
              clear HO0 HB0
              go_wp2_with fail
              go_quiet (fail)
              obtain ⟨h1, h2⟩ := HK.out nq
              have hz1 := h2.size
              have e0 : (W0.drewN nq).cell? ⟨g, 0, none⟩ = some (.int .i64 to) := b0
              have e1 : (W0.drewN nq).cell? ⟨g, 1, none⟩ = some (.int .i64 tt) := b1
              have e2 : (W0.drewN nq).cell? ⟨g, 2, none⟩ = some (.string tk) := b2
              have e3 : (W0.drewN nq).cell? ⟨g, 3, none⟩ = some (.string tv) := b3
              have e4 : (W0.drewN nq).cell? ⟨g, 4, none⟩ = some (.bool td) := b4
              have HO1 := Lib.hid h1
              have HB1 := Lib.hid h2
              clear h1 h2 b0 b1 b2 b3 b4 HK h0 hl0
              generalize W0.drewN nq = W1 at *
              have hkn := HKN.out
              have hxl2 := HXL.out
              go_wp2_with (at_builtin; refine wpList_append_rec rfl (.tmp 57) (.tmp 59) rfl w.heap.size _ rs rfl W1 ⟨to, tt, tk, tv, td⟩ rfl HO1.out rfl HRB.out hz1 ?_; intro v4 w4 hown4 hb4 _ _; have HO4 := Lib.hid hown4; have HB4 := Lib.hid hb4; clear hown4 hb4)
              go_roundw
              case rel => exact ⟨rs ++ [⟨to, tt, tk, tv, td⟩], k + n, by first | rw [HWK.out] | rfl, HKN.out, by have := HLE.out; have := HN5.out; rw [List.length_append, List.length_singleton]; omega, HNX.out, HO4.out, fun q hq => by
                rcases List.mem_append.1 hq with hq | hq
                · exact HGD.out q hq
                · rw [List.mem_singleton.1 hq]; exact HRT.out, HB1.out.trans HB4.out⟩
              case measure => have hn5 := HN5.out; simp [intOf]; omega
            · obtain ⟨bo, oo, rfl, _, hlast⟩ := HLI.out.more (i := rs.length - 1) (by omega)
              have hla := lastO_at (l := rs) (by omega)
              have c0 := hlast.1
              clear hlast
              generalize (rs[rs.length - 1]'(by omega)).off = lo at c0 hla
              obtain ⟨J, hJ⟩ : ∃ J, rs.length - 1 = J := ⟨_, rfl⟩
              rw [hJ] at c0
              have hw : wrap64 ((rs.length : Int) - 1) = (J : Int) := by rw [← hJ]; unfold wrap64; omega
              have hJK : J < rs.length := by clear hw; omega
              have hw2 : IntKind.i64.wrap ((rs.length : Int) - 1) = (J : Int) := (IntWalk.i64_left _).trans hw
              have hl0 : decide (0 < rs.length) = true := decide_eq_true (by clear hw hw2; omega)
              rw [hla] at HST2
              by_cases hfl : to ≤ lo
              · have hq2 : decide (to ≤ lo) = true := decide_eq_true hfl
                have HFIN := Lib.hid (HAT.out.stop (by rw [hla, HST2.out]; simp [falls, hfl]))
                clear hla hJ HST2 HLI hfl h0
                clear HO0 HB0
                go_wp2_with fail
                go_quiet (fail)
                go_wp2
                go_ret2
                exact ⟨_, rs, k, rfl, HFIN.out, HK.out nq |>.1, HGD.out, HKL.out, HLE.out, HK.out nq |>.2⟩
              · have hq2 : decide (to ≤ lo) = false := decide_eq_false hfl
                have HST3 : Hid (stepM (lastO rs) (xs.drop k) = some (⟨to, tt, tk, tv, td⟩, n)) := Lib.hid (by rw [hla, HST2.out]; simp [falls, hfl])
                clear hla hJ HST2 HLI hfl h0
                have HNX := Lib.hid (HAT.out.next HST3.out)
                clear HO0 HB0
                go_wp2_with fail
                go_quiet (fail)
                obtain ⟨h1, h2⟩ := HK.out nq
                have hz1 := h2.size
                have e0 : (W0.drewN nq).cell? ⟨g, 0, none⟩ = some (.int .i64 to) := b0
                have e1 : (W0.drewN nq).cell? ⟨g, 1, none⟩ = some (.int .i64 tt) := b1
                have e2 : (W0.drewN nq).cell? ⟨g, 2, none⟩ = some (.string tk) := b2
                have e3 : (W0.drewN nq).cell? ⟨g, 3, none⟩ = some (.string tv) := b3
                have e4 : (W0.drewN nq).cell? ⟨g, 4, none⟩ = some (.bool td) := b4
                have HO1 := Lib.hid h1
                have HB1 := Lib.hid h2
                clear h1 h2 b0 b1 b2 b3 b4 HK hw hw2 hJK hl0 c0
                generalize W0.drewN nq = W1 at *
                have hkn := HKN.out
                have hxl2 := HXL.out
                go_wp2_with (at_builtin; refine wpList_append_rec rfl (.tmp 57) (.tmp 59) rfl w.heap.size _ rs rfl W1 ⟨to, tt, tk, tv, td⟩ rfl HO1.out rfl HRB.out hz1 ?_; intro v4 w4 hown4 hb4 _ _; have HO4 := Lib.hid hown4; have HB4 := Lib.hid hb4; clear hown4 hb4)
                go_roundw
                case rel => exact ⟨rs ++ [⟨to, tt, tk, tv, td⟩], k + n, by first | rw [HWK.out] | rfl, HKN.out, by have := HLE.out; have := HN5.out; rw [List.length_append, List.length_singleton]; omega, HNX.out, HO4.out, fun q hq => by
                  rcases List.mem_append.1 hq with hq | hq
                  · exact HGD.out q hq
                  · rw [List.mem_singleton.1 hq]; exact HRT.out, HB1.out.trans HB4.out⟩
                case measure => have hn5 := HN5.out; simp [intOf]; omega
          · have hq1 : ((mm : Int) != (pl : Int)) = true := by simp; omega
            have HFIN := Lib.hid (HAT.out.stop (by
              have := HST.out
              simp only [HPL.out] at this
              rw [this, if_neg (by simp), if_pos (by omega)]))
            clear HST HLI hmp
            clear HO0 HB0
            go_wp2_with fail
            go_quiet (fail)
            go_wp2
            go_ret2
            exact ⟨_, rs, k, rfl, HFIN.out, HK.out nq |>.1, HGD.out, HKL.out, HLE.out, HK.out nq |>.2⟩
        · have hq0 : (f != 0) = true := by simp [hf]
          have HFIN := Lib.hid (HAT.out.stop (by rw [HST.out, if_pos hf]))
          clear HST HLI hf
          clear HO0 HB0
          go_wp2_with fail
          go_quiet (fail)
          go_wp2
          go_ret2
          exact ⟨_, rs, k, rfl, HFIN.out, HK.out nq |>.1, HGD.out, HKL.out, HLE.out, HK.out nq |>.2⟩
      · have hne : (e != 0) = true := by simp [he]
        have hfin := Lib.hid (hat.stop (stepM_fr (by rw [HR.out]; exact he)))
        clear he hat hown2 HR
        go_wp2
        go_ret2
        exact ⟨_, rs, k, rfl, hfin.out, HO.out, HGD.out, hk, hrk, HB.out⟩
    · have hfin := Lib.hid (hat.over (by omega))
      have HO := Lib.hid hown
      have HB := Lib.hid hbel
      have HGD := Lib.hid hgood
      clear hown hbel hgood hat
      go_wp2
      go_ret2
      exact ⟨_, rs, k, rfl, hfin.out, HO.out, HGD.out, hk, hrk, HB.out⟩
/-- What ReadSegment answers. -/
def TellsRead (xs : List Int) (w : World) (e : Ending) (w' : World) : Prop :=
  ∃ (v : Value) (rs : List Rec) (k : Nat) (er : Int), e = .returned (.tuple #[v, .int .i64 er]) ∧ SegIs none xs rs k ∧ OwnR w' w.heap.size v (if k = xs.length then rs else []) ∧ er = (if k = xs.length then 0 else 5) ∧ (∀ r ∈ rs, r.right) ∧ rs.length ≤ k ∧ k ≤ xs.length ∧ Below w.heap.size w w'
end Go.Proofs.YtffmfgbjlijpeaaDoor
