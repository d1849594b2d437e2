/- A contract of the program's own Make: the marks of records. -/
import Derived.Test.YtffmfgbjlijpeaaDoorMarks
import Derived.Test.YtffmfgbjlijpeaaDoorRMake
import Derived.Test.YtffmfgbjlijpeaaDoorVSegBytes
import Derived.Deep.DeepCutAuto
namespace Go.Proofs.YtffmfgbjlijpeaaDoor
open Go.RowKit

theorem vmark_info : (Tryd.prog.info? 46).map (fun i => (i.zero, i.size, decide (i.bytes ≤ 1024))) = some (some (.agg #[.int .i64 0, .int .i64 0, .int .i64 0]), markRep.n, true) := by kernel_rfl
theorem seg_one {r : Rec} (h : r.right) : segL [r] = frameL (recL r) := by
  unfold segL
  rw [goods_all (by intro q hq; rw [List.mem_singleton.1 hq]; exact h)]
  simp [segF]
theorem recs_one {w : World} {b off : Nat} {r : Rec} {cap : Nat} (hb : b < w.heap.size) (h : RecAt w b off r) (hw : r.wf) (h1 : 1 ≤ cap) (hm : cap ≤ maxLen) : RecsLie w (some ⟨b, off, none⟩) [r] cap := by
  refine ⟨fun _ => ⟨b, off, rfl, hb, fun i hi => ?_⟩, by simpa using h1, hm, fun q hq => by rw [List.mem_singleton.1 hq]; exact hw⟩
  obtain rfl : i = 0 := by simpa using hi
  simpa using h
theorem grown_cell {w w' : World} {o : Obj} {row : Option Nat} {g j : Nat} {u : Value} (hg : (w.alloc o).grownBy w' row) (h : w.cell? ⟨g, j, none⟩ = some u) (hr : ∀ k, row = some k → k ≠ g) : w'.cell? ⟨g, j, none⟩ = some u := by
  have hlt := cell_block_lt h
  have : w'.heap[g]? = w.heap[g]? := by
    rw [hg.block g (by simp; omega) (fun e => hr g (by first | exact e | exact e.symm) rfl), Below.heap_alloc _ _ _ hlt]
  rw [← h]
  simp [World.cell?, this]
set_option maxHeartbeats 3200000 in
set_option maxRecDepth 4000 in
theorem vmake_any (w : World) (hh : Half w) (rs : List Rec) (A : Option Addr) (cap : Nat) (h : RecsLie w A rs cap) (every : Int) (he : every ≤ 9223372036854775807) (hl : rs.length ≤ 1000000) :
    Calls Tryd.prog 10 #[.slice A rs.length cap, .int .i64 every] w (NewMarks 46 w (makeM (evN every) (goods rs))) := by
  have hcl := h.2.1
  have hcm := h.2.2.1
  unfold maxLen at hcm
  have h0 := hh.pos
  have H := Lib.hid h
  have HL := Lib.hid hl
  have HH := Lib.hid hh
  obtain ⟨E, hE⟩ : ∃ E, evN every = E := ⟨_, rfl⟩
  have hE0 : 0 < E := by rw [← hE]; exact evN_pos _
  have hcase : every < 1 ∧ E = 1 ∨ ¬ every < 1 ∧ every = (E : Int) := by
    unfold evN at hE
    split at hE <;> omega
  rw [hE]
  clear h hl hE hh
  go_enter Tryd.func10, Tryd.ntmps10
  go_upto_region 2 with fail
  go_cut [6] (fun s wx => s = .int .i64 (E : Int) ∧ wx = w)
  case first =>
    rcases hcase with ⟨h1, h2⟩ | ⟨h1, h2⟩
    · have hq : decide (every < 1) = true := decide_eq_true h1
      subst h2
      go_wp2_with fail
      all_goals go_meet
      all_goals exact ⟨by first | rfl | (congr 1 <;> omega), rfl⟩
    · have hq : decide (every < 1) = false := decide_eq_false h1
      have H2 := Lib.hid h2
      clear h2
      go_wp2_with fail
      all_goals go_meet
      all_goals exact ⟨by have h2 := H2.out; first | rfl | (congr 1 <;> omega), rfl⟩
  case rest =>
    obtain ⟨rfl, hwc⟩ := hcut
    have hwc' := hwc.symm
    clear hwc
    subst hwc'
    have HE : Hid (0 < E ∧ E ≤ 9223372036854775807) := Lib.hid (by omega)
    clear hcase hE0 he
    go_wp2_with fail
    go_loopw [5, 7, 8, 9, 16] (fun v cv pv tv iv wr => ∃ i : Nat, iv = .int .i64 i ∧ pv = .int .i64 ((segF (goods (rs.take i))).length : Nat) ∧ cv = .int .i64 ((goods (rs.take i)).length : Nat) ∧ tv = .int .i64 (mostT (goods (rs.take i))) ∧ i ≤ rs.length ∧ OwnM 46 wr w.heap.size v (makeM E (goods (rs.take i))) ∧ Below w.heap.size w wr) (fun _ _ _ _ iv _ => rs.length - (intOf iv).toNat)
    case atStart => exact ⟨0, rfl, rfl, rfl, rfl, Nat.zero_le _, OwnS.nil (fun _ h => h.elim), Below.refl _ _⟩
    case round =>
      obtain ⟨i, rfl, rfl, rfl, rfl, hi, hown, hbel⟩ := hrel
      have hll := HL.out
      have HO := Lib.hid hown
      have HG := Lib.hid (fun g hg => (OwnS.lt hown g hg).2)
      have HB := Lib.hid hbel
      obtain ⟨C, hC⟩ : ∃ C, (goods (rs.take i)).length = C := ⟨_, rfl⟩
      obtain ⟨P, hP⟩ : ∃ P, (segF (goods (rs.take i))).length = P := ⟨_, rfl⟩
      obtain ⟨T, hT⟩ : ∃ T, mostT (goods (rs.take i)) = T := ⟨_, rfl⟩
      have hCi : C ≤ i := by
        have := goods_length (rs.take i)
        rw [List.length_take, hC] at this
        omega
      have hPi : P ≤ 2400000000 := by
        have h1 := segF_length (goods (rs.take i)) fun r hr => goods_right hr
        rw [hC, hP] at h1
        omega
      rw [hC, hP, hT]
      clear hown
      by_cases hlt : i < rs.length
      · obtain ⟨b, off, rfl, hbl, hat⟩ := H.out.more hlt
        have hbs := hbel.size
        have HAT := Lib.hid (fun W (hb : Below w.heap.size w W) => hat.keep (w' := W) fun j => hb.cell hbl)
        obtain ⟨g0, g1, g2, g3, g4⟩ := HAT.out wr hbel
        have HBL := Lib.hid hbl
        have HWF := Lib.hid (H.out.2.2.2 _ (List.getElem_mem hlt))
        have HNX := Lib.hid (make_next E rs i hlt)
        have HSK := Lib.hid (goods_skip rs i hlt)
        obtain ⟨r, hr⟩ : ∃ r, rs[i] = r := ⟨_, rfl⟩
        rw [hr] at g0 g1 g2 g3 g4 HAT HNX HSK HWF
        rw [hC, hP, hT] at HNX
        obtain ⟨xo, xt, xk, xv, xd⟩ := r
        dsimp only at g0 g1 g2 g3 g4 HNX
        have HRT := Lib.hid (fun W => rright_any ⟨xo, xt, xk, xv, xd⟩ W HWF.out)
        unfold recV at HRT
        dsimp only at HRT
        have HL1 : Hid ((makeM E (goods (rs.take i))).length + 1 ≤ 137438953472) := Lib.hid (by
          have := makeM_length E (goods (rs.take i))
          omega)
        have HCC := Lib.hid hC
        have hP2 := hP
        have hT2 := hT
        have HBX := Lib.hid (HB.out.alloc hbs (.cells #[.int .i64 xo, .int .i64 xt, .string xk, .string xv, .bool xd] 35))
        have HOX := Lib.hid (OwnS.alloc HO.out (.cells #[.int .i64 xo, .int .i64 xt, .string xk, .string xv, .bool xd] 35))
        have hnew : ∀ W, Below (wr.alloc (.cells #[.int .i64 xo, .int .i64 xt, .string xk, .string xv, .bool xd] 35)).heap.size (wr.alloc (.cells #[.int .i64 xo, .int .i64 xt, .string xk, .string xv, .bool xd] 35)) W → ∀ j, W.cell? ⟨wr.heap.size, j, none⟩ = (#[.int .i64 xo, .int .i64 xt, .string xk, .string xv, .bool xd] : Array Value)[j]? := fun W hb j => by
          have : W.heap[wr.heap.size]? = some (.cells #[.int .i64 xo, .int .i64 xt, .string xk, .string xv, .bool xd] 35) := by
            rw [hb.block _ (by simp)]
            show (wr.heap.push _)[wr.heap.size]? = _
            simp
          unfold World.cell?
          rw [this]
          rfl
        have HNW := Lib.hid hnew
        clear hat hr hbl hbel hC hP hT hnew
        by_cases hrt : (⟨xo, xt, xk, xv, xd⟩ : Rec).right
        · have hq : decide (⟨xo, xt, xk, xv, xd⟩ : Rec).right = true := decide_eq_true hrt
          rw [hq] at HRT
          have hfl := frame_rec_length _ hrt
          have hso := seg_one hrt
          obtain ⟨n1, n2, n3, n4⟩ := HNX.out hrt
          rw [← hso] at hfl n4
          have N1 := Lib.hid (show (goods (rs.take (i + 1))).length = C + 1 by rw [n1, List.length_append, HCC.out]; rfl)
          have N2 := Lib.hid n2
          have N3 := Lib.hid n3
          have N4 := Lib.hid n4
          have HC := Lib.hid (And.intro hCi hPi)
          have HFL := Lib.hid hfl
          clear HNX HSK hrt hq hP2 hT2 n1 n2 n3 n4 hfl hPi hso
          go_wp2_with fail
          refine (HRT.out _).mono ?_
          rintro e w2 ⟨rfl, hb2⟩
          have hbw := HBX.out.trans (hb2.mono HBX.out.size)
          have b0 := HNW.out w2 hb2 0
          have b1 := HNW.out w2 hb2 1
          have b2 := HNW.out w2 hb2 2
          have b3 := HNW.out w2 hb2 3
          have b4 := HNW.out w2 hb2 4
          simp only [List.getElem?_toArray, List.getElem?_cons_zero, List.getElem?_cons_succ] at b0 b1 b2 b3 b4
          have HO2 := Lib.hid (OwnS.below HOX.out hb2)
          have HB2 := Lib.hid hbw
          have hbs2 := hbw.size
          have hw2 : wr.heap.size < w2.heap.size := by have := hb2.size; simp at this; omega
          clear HRT hb2 hbw g0 g1 g2 g3 g4 HO HB HOX HBX HNW
          obtain ⟨M, hM⟩ : ∃ M, C % E = M := ⟨_, rfl⟩
          rw [hM] at N2
          have hmz : ¬ (E : Int) = 0 := by have := HE.out; omega
          have hmod : (C : Int).tmod (E : Int) = (M : Int) := by rw [← hM, Int.ofNat_tmod]
          clear hM
          go_upto_if 27 with fail
          go_cut [5] (fun v wz => OwnM 46 wz w.heap.size v (makeM E (goods (rs.take (i + 1)))) ∧ Below w.heap.size w wz ∧ wz.cell? ⟨wr.heap.size, 1, none⟩ = some (.int .i64 xt))
          case first =>
            by_cases hz : M = 0
            · subst hz
              obtain ⟨Bo, co, rfl, hlie, _⟩ := OwnS.parts HO2.out
              have hlc := hlie.2.1
              have hlm := hlie.2.2
              unfold maxLen at hlm
              clear hlie
              go_wp2_with (at_builtin; refine wpList_append_one (R := markRep) rfl (.tmp 28) (.tmp 34) 27 46 rfl Tryd.underlying27 _ vmark_info rfl w.heap.size _ (makeM E (goods (rs.take i))) rfl w2 ⟨xo, T, (P : Int)⟩ (markCells ⟨xo, T, (P : Int)⟩) rfl rfl HO2.out w2.heap.size rfl rfl HL1.out hbs2 ?_; intro v4 w4 hown4 hb4 hg4 _; have HO4 := Lib.hid hown4; have HB4 := Lib.hid hb4; have HC4 := Lib.hid (grown_cell hg4 b1 (fun k hk => Nat.ne_of_lt (HG.out k hk))); clear hown4 hb4 hg4)
              go_meet
              exact ⟨by rw [N2.out, if_pos trivial]; exact HO4.out, HB2.out.trans HB4.out, HC4.out⟩
            · have hqz : ((M : Int) == 0) = false := by simp [hz]
              go_wp2_with fail
              go_meet
              exact ⟨by rw [N2.out, if_neg hz, List.append_nil]; exact HO2.out, HB2.out, b1⟩
          case rest =>
            obtain ⟨ho3, hb3, hc3⟩ := hcut
            have HO3 := Lib.hid ho3
            have HB3 := Lib.hid hb3
            have hz3 := hb3.size
            have hat3 := HAT.out wc hb3
            have hb3z := Nat.lt_of_lt_of_le HBL.out hz3
            have HS := vsegbytes_any wc (HH.out.below hb3 h0) [⟨xo, xt, xk, xv, xd⟩] (some ⟨b, off + i * 5, none⟩) (cap - i) (recs_one hb3z hat3 HWF.out (by omega) (by unfold maxLen; omega)) (by simp)
            have HSB := Lib.hid HS
            have hc3z := cell_block_lt hc3
            have HC3 := Lib.hid hc3
            clear b0 b1 b2 b3 b4 HO2 HB2 hbs2 N2 HL1 hmz hmod ho3 hb3 HS hat3 hb3z hc3
            generalize wc = w3 at *
            have hck : ¬ cap = i := by omega
            go_wp2_with fail
            refine HSB.out.mono ?_
            rintro e w4 ⟨v4, rfl, ho4, hb4⟩
            obtain ⟨A4, c4, rfl, q1, q2⟩ := ho4.form
            have k1 := (hb4.cell (p := ⟨wr.heap.size, 1, none⟩) hc3z).trans HC3.out
            have HB4 := Lib.hid (HB3.out.trans (hb4.mono hz3))
            have HO4 := Lib.hid (OwnS.below HO3.out hb4)
            obtain ⟨fl, hfl⟩ : ∃ fl, (segL [⟨xo, xt, xk, xv, xd⟩]).length = fl := ⟨_, rfl⟩
            have hb1 := HFL.out
            have hb2 := HC.out
            rw [hfl] at N4 hb1 q1 ⊢
            unfold maxLen at q2
            clear ho4 hb4 HSB HO3 HB3 hz3 hfl HFL HC3 hc3z
            obtain ⟨T', hT'⟩ : ∃ T', (if T < xt then xt else T) = T' := ⟨_, rfl⟩
            rw [hT'] at N3
            have HT' := Lib.hid hT'
            clear hT'
            by_cases ht : T < xt
            · have hqt : decide (T < xt) = true := decide_eq_true ht
              go_wp2_with fail
              go_roundw
              case rel => exact ⟨i + 1, by go_num, by rw [N4.out]; go_num, by rw [N1.out]; go_num, by have h := HT'.out; rw [if_pos (by omega)] at h; rw [N3.out, ← h], hlt, HO4.out, HB4.out⟩
              case measure => simp [intOf]; omega
            · have hqt : decide (T < xt) = false := decide_eq_false ht
              go_wp2_with fail
              go_roundw
              case rel => exact ⟨i + 1, by go_num, by rw [N4.out]; go_num, by rw [N1.out]; go_num, by have h := HT'.out; rw [if_neg (by omega)] at h; rw [N3.out, ← h], hlt, HO4.out, HB4.out⟩
              case measure => simp [intOf]; omega
        · have hq : decide (⟨xo, xt, xk, xv, xd⟩ : Rec).right = false := decide_eq_false hrt
          rw [hq] at HRT
          have HSK2 := Lib.hid (HSK.out hrt)
          have HPP := Lib.hid (And.intro hP2 hT2)
          clear HNX HSK hrt hq hP2 hT2
          go_wp2_with fail
          refine (HRT.out _).mono ?_
          rintro e w2 ⟨rfl, hb2⟩
          have HO2 := Lib.hid (OwnS.below HOX.out hb2)
          have HB2 := Lib.hid (HBX.out.trans (hb2.mono HBX.out.size))
          clear HRT hb2 HO HB HOX HBX HNW
          go_wp2_with fail
          go_roundw
          case rel => exact ⟨i + 1, by go_num, by rw [HSK2.out, HPP.out.1], by rw [HSK2.out, HCC.out], by rw [HSK2.out, HPP.out.2], hlt, by rw [HSK2.out]; exact HO2.out, HB2.out⟩
          case measure => simp [intOf]; omega
      · obtain rfl : i = rs.length := by omega
        clear hbel
        go_wp2_with fail
        go_ret
        refine ⟨_, rfl, ?_, HB.out⟩
        have := HO.out
        rw [List.take_length] at this
        exact this
end Go.Proofs.YtffmfgbjlijpeaaDoor
