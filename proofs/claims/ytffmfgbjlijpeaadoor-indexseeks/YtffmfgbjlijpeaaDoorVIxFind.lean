/- Contracts of the program's own Find and FindTime: the first record of an offset, of a time, that bytes have from marks' place on. -/
import Derived.Test.YtffmfgbjlijpeaaDoorRFind
import Derived.Test.YtffmfgbjlijpeaaDoorVMark
import Derived.Test.YtffmfgbjlijpeaaDoorVSegScan
import Derived.Deep.DeepCutAuto
namespace Go.Proofs.YtffmfgbjlijpeaaDoor
open Go.RowKit

theorem TellsFirstOf.mono {xs : List Int} {pos : Int} {p : Rec → Bool} {w w0 w' : World} {e : Ending} (hb : Below w.heap.size w w0) (h : TellsFirstOf xs pos p w0 e w') : TellsFirstOf xs pos p w e w' := by
  obtain ⟨rs, k, h1, h2, h3, h4⟩ := h
  exact ⟨rs, k, h1, h2, h3, hb.trans (h4.mono hb.size)⟩
theorem new_rec_cells {w : World} {r : Rec} {W : World} (hb : Below (w.alloc (recO r)).heap.size (w.alloc (recO r)) W) : W.heap[w.heap.size]? = some (recO r) := by rw [hb.block _ (by simp), heap_alloc_new]
theorem vfindf1_any (w : World) (n : Int) (B : Nat) (xo xt : Int) (xk xv : ByteArray) (xd : Bool) (hn : w.cell? ⟨B, 0, none⟩ = some (.int .i64 n)) :
    Calls Tryd.prog 27 #[.agg #[.int .i64 xo, .int .i64 xt, .string xk, .string xv, .bool xd], .pointer (some ⟨B, 0, none⟩)] w (fun e w' => e = .returned (.bool (decide (n ≤ xo))) ∧ Below w.heap.size w w') := by
  have hB := cell_block_lt hn
  have HB := Lib.hid ((Below.refl w.heap.size w).alloc (Nat.le_refl _) (.cells #[.int .i64 xo, .int .i64 xt, .string xk, .string xv, .bool xd] 35))
  go_enter Tryd.func27, Tryd.ntmps27
  go_wp2
  go_ret
  exact ⟨rfl, HB.out⟩
set_option maxRecDepth 100000 in
set_option maxHeartbeats 3200000 in
theorem vfindfirst_any (A : Option Addr) (xs : List Int) (c : Nat) (pos n : Int) (B : Nat) (w : World) (hh : Half w) (hn : w.cell? ⟨B, 0, none⟩ = some (.int .i64 n)) (hl : Lies .u8 w w.heap.size A xs) (hby : IsBytes xs) (hc : xs.length ≤ c) (hcm : c ≤ maxLen) (hxl : xs.length ≤ 549755813888) :
    Calls Tryd.prog 26 #[.slice A xs.length c, .int .i64 pos, .func (.func 27) #[] #[.pointer (some ⟨B, 0, none⟩)]] w (TellsFirstOf xs pos (geO n) w) := by
  have hB := cell_block_lt hn
  have h0 := hh.pos
  have HBW : Hid (Below w.heap.size w (w.alloc (recO zeroR))) := Lib.hid ((Below.refl _ _).alloc (Nat.le_refl _) _)
  have HRES : Hid (∀ W, Below (w.alloc (recO zeroR)).heap.size (w.alloc (recO zeroR)) W → W.heap[w.heap.size]? = some (recO zeroR)) := Lib.hid fun W hb => new_rec_cells hb
  have HCN : Hid (∀ W, Below (w.alloc (recO zeroR)).heap.size (w.alloc (recO zeroR)) W → W.cell? ⟨B, 0, none⟩ = some (.int .i64 n)) := Lib.hid fun W hb => ((HBW.out.trans (hb.mono HBW.out.size)).cell (p := ⟨B, 0, none⟩) hB).trans hn
  obtain ⟨k0, hk0⟩ : ∃ k0, place pos xs.length = k0 := ⟨_, rfl⟩
  have hnl : k0 ≤ xs.length := by rw [← hk0]; exact place_le _ _
  have hs := vsegscan_any _ (xs.drop k0) (c - k0) (w.alloc (recO zeroR)) (hh.below HBW.out h0) (cut_lies (n := k0) ((hl.below HBW.out).more HBW.out.size) hc) (fun q hq => hby q (List.mem_of_mem_drop hq)) (by rw [List.length_drop]; omega) (by omega) (by rw [List.length_drop]; omega)
  rw [List.length_drop] at hs
  have HK := Lib.hid hk0
  have HXL := Lib.hid hxl
  obtain ⟨L, hL⟩ : ∃ L, xs.length = L := ⟨_, rfl⟩
  have hcase : (pos < 0 ∧ k0 = 0) ∨ (¬ pos < 0 ∧ (L : Int) < pos ∧ k0 = 0) ∨ (¬ pos < 0 ∧ ¬ (L : Int) < pos ∧ pos = (k0 : Int)) := by
    rw [hL] at hk0
    unfold place at hk0
    split at hk0 <;> omega
  rw [hL] at hs hnl hc ⊢
  have HLL := Lib.hid hL
  unfold maxLen at hcm
  clear hl hby hL hk0 hh hxl h0 hn hB
  unfold recO zeroR at HBW HRES HCN hs
  dsimp only at HBW HRES HCN hs
  go_enter Tryd.func26, Tryd.ntmps26
  go_upto_region 1 with fail
  go_cut [19] (fun s wx => ∃ d, s = .bool d ∧ wx = w.alloc (.cells #[.int .i64 0, .int .i64 0, .string ⟨#[]⟩, .string ⟨#[]⟩, .bool false] 35 (0, 0)) ∧ (d = true ∧ k0 = 0 ∨ d = false ∧ pos = (k0 : Int)))
  case first =>
    clear hs
    rcases hcase with ⟨h1, h2⟩ | ⟨h1, h2, h3⟩ | ⟨h1, h2, h3⟩
    · have q1 : decide (pos < 0) = true := decide_eq_true h1
      have HF := Lib.hid h2
      clear h1 h2
      go_wp2_with fail
      go_meet
      exact ⟨_, rfl, rfl, .inl ⟨rfl, HF.out⟩⟩
    · have q1 : decide (pos < 0) = false := decide_eq_false h1
      have q2 : decide ((L : Int) < pos) = true := decide_eq_true h2
      have HF := Lib.hid h3
      clear h1 h2 h3
      go_wp2_with fail
      go_meet
      exact ⟨_, rfl, rfl, .inl ⟨rfl, HF.out⟩⟩
    · have q1 : decide (pos < 0) = false := decide_eq_false h1
      have q2 : decide ((L : Int) < pos) = false := decide_eq_false h2
      have HF := Lib.hid h3
      clear h1 h2 h3
      go_wp2_with fail
      go_meet
      exact ⟨_, rfl, rfl, .inr ⟨rfl, HF.out⟩⟩
  case rest =>
  obtain ⟨bad, rfl, rfl, hbad⟩ := hcut
  clear hcase
  go_upto_if 19 with fail
  go_cut [1] (fun s wx => s = .int .i64 (k0 : Int) ∧ wx = w.alloc (.cells #[.int .i64 0, .int .i64 0, .string ⟨#[]⟩, .string ⟨#[]⟩, .bool false] 35 (0, 0)))
  case first =>
    clear hs
    rcases hbad with ⟨rfl, rfl⟩ | ⟨rfl, h3⟩
    · go_wp2_with fail
      go_meet
      exact ⟨rfl, rfl⟩
    · have HF := Lib.hid h3
      clear h3
      go_wp2_with fail
      go_meet
      exact ⟨by rw [HF.out], rfl⟩
  case rest =>
    obtain ⟨rfl, rfl⟩ := hcut
    clear hbad
    obtain ⟨A', n', c', hA', hn', hc', hs'⟩ : ∃ A' n' c', (if c = k0 then A else A.map (·.add k0)) = A' ∧ L - k0 = n' ∧ c - k0 = c' ∧ Hid (Calls Tryd.prog 38 #[.slice A' n' c'] (w.alloc (.cells #[.int .i64 0, .int .i64 0, .string ⟨#[]⟩, .string ⟨#[]⟩, .bool false] 35 (0, 0))) (TellsSeg (xs.drop k0) (w.alloc (.cells #[.int .i64 0, .int .i64 0, .string ⟨#[]⟩, .string ⟨#[]⟩, .bool false] 35 (0, 0))))) := ⟨_, _, _, rfl, rfl, rfl, Lib.hid hs⟩
    clear hs
    go_wp2_with fail
    refine hs'.out.mono ?_
    rintro e w2 ⟨v2, rs, k, rfl, h1, h2, h3, h4, h5, h6⟩
    have hr2 := HRES.out w2 h6
    have hb2 := hs'
    have HB2 := Lib.hid (HBW.out.trans (h6.mono HBW.out.size))
    have hcn2 := HCN.out w2 h6
    obtain ⟨Aq, cq, rfl, pq, _⟩ := h2.parts fun r hr => (h3 r hr).wf
    have hq1 := pq.2.1
    have hq2 := pq.2.2.1
    unfold maxLen at hq2
    have H1 : Hid (SegIs none (xs.drop (place pos xs.length)) rs k) := Lib.hid (by rw [HK.out]; exact h1)
    have H2 := Lib.hid pq
    have H3 := Lib.hid h3
    have HR2 := Lib.hid hr2
    have HCN2 := Lib.hid hcn2
    have hll : rs.length ≤ 549755813888 := by
      rw [List.length_drop] at h4
      have := HXL.out
      omega
    have hbn := cell_block_lt hcn2
    have hbr := (Array.getElem?_eq_some_iff.1 hr2).1
    clear h1 h2 h3 h4 h5 h6 pq hs' hb2 HRES HBW HCN hr2 hcn2 hA' hn' hc' hnl hc hcm
    go_wp2_with fail
    go_loopw [29] (fun iv wr => ∃ i : Nat, iv = .int .i64 i ∧ i ≤ rs.length ∧ (rs.take i).find? (geO n) = none ∧ Below w2.heap.size w2 wr) (fun iv _ => rs.length - (intOf iv).toNat)
    case atStart => exact ⟨0, rfl, Nat.zero_le _, rfl, Below.refl _ _⟩
    case round =>
      obtain ⟨i, rfl, hi, hnf, hbel⟩ := hrel
      have HNF := Lib.hid hnf
      have HBE := Lib.hid hbel
      clear hnf
      have hbs := hbel.size
      by_cases hlt : i < rs.length
      · obtain ⟨b, off, rfl, hbl, hat⟩ := H2.out.more hlt
        obtain ⟨g0, g1, g2, g3, g4⟩ := hat.keep (w' := wr) fun j => hbel.cell hbl
        have HY := Lib.hid (fun hp => find_here (p := geO n) hlt HNF.out hp)
        have HN := Lib.hid (fun hp => find_skip (p := geO n) hlt HNF.out hp)
        obtain ⟨x, hx⟩ : ∃ x, rs[i] = x := ⟨_, rfl⟩
        rw [hx] at g0 g1 g2 g3 g4 HY HN
        obtain ⟨xo, xt, xk, xv, xd⟩ := x
        dsimp only at g0 g1 g2 g3 g4 HY HN
        have HNW := Lib.hid (fun W hb => obj_cells (new_rec_cells (w := wr) (r := ⟨xo, xt, xk, xv, xd⟩) (W := W) hb))
        have HBX := Lib.hid ((Below.refl wr.heap.size wr).alloc (Nat.le_refl _) (recO ⟨xo, xt, xk, xv, xd⟩))
        have HC := Lib.hid (vfindf1_any (wr.alloc (recO ⟨xo, xt, xk, xv, xd⟩)) n B xo xt xk xv xd ((HBX.out.cell (p := ⟨B, 0, none⟩) (Nat.lt_of_lt_of_le hbn hbs)).trans ((hbel.cell (p := ⟨B, 0, none⟩) hbn).trans HCN2.out)))
        unfold recO at HNW HBX HC
        dsimp only at HNW HBX HC
        clear hx hat hbl hbel
        by_cases hp : n ≤ xo
        · have hq : decide (n ≤ xo) = true := decide_eq_true hp
          rw [hq] at HC
          have HE := Lib.hid (HY.out hq)
          clear HY HN hp
          have HSTEP := Lib.hid (fun W (hb : Below (wr.alloc (.cells #[.int .i64 xo, .int .i64 xt, .string xk, .string xv, .bool xd] 35 (0, 0))).heap.size (wr.alloc (.cells #[.int .i64 xo, .int .i64 xt, .string xk, .string xv, .bool xd] 35 (0, 0))) W) => (HBE.out.trans ((HBX.out.trans (hb.mono HBX.out.size)).mono hbs)))
          have HRX := Lib.hid (fun W (hb : Below w2.heap.size w2 W) => obj_cells (r := zeroR) ((hb.block _ hbr).trans HR2.out))
          go_wp2_with (go_at_call 27; refine HC.out.mono ?_; rintro e w3 ⟨rfl, hb3⟩; obtain ⟨⟨b0, b1, b2, b3, b4⟩, _⟩ := HNW.out w3 hb3; have hs3 := HSTEP.out w3 hb3; obtain ⟨⟨r0, r1, r2, r3, r4⟩, rf⟩ := HRX.out w3 hs3; have r0f := rf 0; have r1f := rf 1; have r2f := rf 2; have r3f := rf 3; have r4f := rf 4; have HS3 := Lib.hid hs3; clear rf hs3 hb3)
          have hr3 : w3.heap[w.heap.size]? = some (recO zeroR) := (HS3.out.block _ hbr).trans HR2.out
          have HB3 := Lib.hid (HB2.out.trans (HS3.out.mono HB2.out.size))
          obtain ⟨k0, k1, k2, k3, k4⟩ := five_cells hr3 (.int .i64 xo) (.int .i64 xt) (.string xk) (.string xv) (.bool xd)
          (try simp only [Exit.inBlock, Exit.then])
          refine bodyPost_ret (by simp [results, Tryd.results26, go_sem, k0, k1, k2, k3, k4]; try rfl) rfl ?_
          exact TellsFirstOf.some H1.out H3.out HE.out (((((HB3.out.setCell (Nat.le_refl _) _).setCell (Nat.le_refl _) _).setCell (Nat.le_refl _) _).setCell (Nat.le_refl _) _).setCell (Nat.le_refl _) _)
        · have hq : decide (n ≤ xo) = false := decide_eq_false hp
          rw [hq] at HC
          have HE := Lib.hid (HN.out (by unfold geO; rw [hq]; decide))
          clear HY HN hp
          go_wp2_with (go_at_call 27; refine HC.out.mono ?_; rintro e w3 ⟨rfl, hb3⟩; have HB3 := Lib.hid (HBE.out.trans ((HBX.out.trans (hb3.mono HBX.out.size)).mono hbs)); clear hb3)
          go_roundw
          case rel => exact ⟨i + 1, by go_num, hlt, HE.out, HB3.out⟩
          case measure => simp [intOf]; omega
      · obtain rfl : i = rs.length := by omega
        have hnf := HNF.out
        rw [List.take_length] at hnf
        have HF := Lib.hid hnf
        have HB3 := Lib.hid (HB2.out.trans (hbel.mono HB2.out.size))
        have hr3 : wr.heap[w.heap.size]? = some (recO zeroR) := (hbel.block _ hbr).trans HR2.out
        obtain ⟨⟨r0, r1, r2, r3, r4⟩, rf⟩ := obj_cells hr3
        have r0f := rf 0
        have r1f := rf 1
        have r2f := rf 2
        have r3f := rf 3
        have r4f := rf 4
        have HR3 := Lib.hid hr3
        clear rf hnf hbel hr3
        go_wp2
        obtain ⟨k0, k1, k2, k3, k4⟩ := five_cells HR3.out (.int .i64 0) (.int .i64 0) (.string ⟨#[]⟩) (.string ⟨#[]⟩) (.bool false)
        (try simp only [Exit.inBlock, Exit.then])
        refine bodyPost_ret (by simp [results, Tryd.results26, go_sem, k0, k1, k2, k3, k4]; try rfl) rfl ?_
        exact TellsFirstOf.none H1.out H3.out HF.out (((((HB3.out.setCell (Nat.le_refl _) _).setCell (Nat.le_refl _) _).setCell (Nat.le_refl _) _).setCell (Nat.le_refl _) _).setCell (Nat.le_refl _) _)
theorem vfindtimef1_any (w : World) (n : Int) (B : Nat) (xo xt : Int) (xk xv : ByteArray) (xd : Bool) (hn : w.cell? ⟨B, 0, none⟩ = some (.int .i64 n)) :
    Calls Tryd.prog 29 #[.agg #[.int .i64 xo, .int .i64 xt, .string xk, .string xv, .bool xd], .pointer (some ⟨B, 0, none⟩)] w (fun e w' => e = .returned (.bool (decide (n ≤ xt))) ∧ Below w.heap.size w w') := by
  have hB := cell_block_lt hn
  have HB := Lib.hid ((Below.refl w.heap.size w).alloc (Nat.le_refl _) (.cells #[.int .i64 xo, .int .i64 xt, .string xk, .string xv, .bool xd] 35))
  go_enter Tryd.func29, Tryd.ntmps29
  go_wp2
  go_ret
  exact ⟨rfl, HB.out⟩
set_option maxRecDepth 100000 in
set_option maxHeartbeats 3200000 in
theorem vfindtimefirst_any (A : Option Addr) (xs : List Int) (c : Nat) (pos n : Int) (B : Nat) (w : World) (hh : Half w) (hn : w.cell? ⟨B, 0, none⟩ = some (.int .i64 n)) (hl : Lies .u8 w w.heap.size A xs) (hby : IsBytes xs) (hc : xs.length ≤ c) (hcm : c ≤ maxLen) (hxl : xs.length ≤ 549755813888) :
    Calls Tryd.prog 26 #[.slice A xs.length c, .int .i64 pos, .func (.func 29) #[] #[.pointer (some ⟨B, 0, none⟩)]] w (TellsFirstOf xs pos (geT n) w) := by
  have hB := cell_block_lt hn
  have h0 := hh.pos
  have HBW : Hid (Below w.heap.size w (w.alloc (recO zeroR))) := Lib.hid ((Below.refl _ _).alloc (Nat.le_refl _) _)
  have HRES : Hid (∀ W, Below (w.alloc (recO zeroR)).heap.size (w.alloc (recO zeroR)) W → W.heap[w.heap.size]? = some (recO zeroR)) := Lib.hid fun W hb => new_rec_cells hb
  have HCN : Hid (∀ W, Below (w.alloc (recO zeroR)).heap.size (w.alloc (recO zeroR)) W → W.cell? ⟨B, 0, none⟩ = some (.int .i64 n)) := Lib.hid fun W hb => ((HBW.out.trans (hb.mono HBW.out.size)).cell (p := ⟨B, 0, none⟩) hB).trans hn
  obtain ⟨k0, hk0⟩ : ∃ k0, place pos xs.length = k0 := ⟨_, rfl⟩
  have hnl : k0 ≤ xs.length := by rw [← hk0]; exact place_le _ _
  have hs := vsegscan_any _ (xs.drop k0) (c - k0) (w.alloc (recO zeroR)) (hh.below HBW.out h0) (cut_lies (n := k0) ((hl.below HBW.out).more HBW.out.size) hc) (fun q hq => hby q (List.mem_of_mem_drop hq)) (by rw [List.length_drop]; omega) (by omega) (by rw [List.length_drop]; omega)
  rw [List.length_drop] at hs
  have HK := Lib.hid hk0
  have HXL := Lib.hid hxl
  obtain ⟨L, hL⟩ : ∃ L, xs.length = L := ⟨_, rfl⟩
  have hcase : (pos < 0 ∧ k0 = 0) ∨ (¬ pos < 0 ∧ (L : Int) < pos ∧ k0 = 0) ∨ (¬ pos < 0 ∧ ¬ (L : Int) < pos ∧ pos = (k0 : Int)) := by
    rw [hL] at hk0
    unfold place at hk0
    split at hk0 <;> omega
  rw [hL] at hs hnl hc ⊢
  have HLL := Lib.hid hL
  unfold maxLen at hcm
  clear hl hby hL hk0 hh hxl h0 hn hB
  unfold recO zeroR at HBW HRES HCN hs
  dsimp only at HBW HRES HCN hs
  go_enter Tryd.func26, Tryd.ntmps26
  go_upto_region 1 with fail
  go_cut [19] (fun s wx => ∃ d, s = .bool d ∧ wx = w.alloc (.cells #[.int .i64 0, .int .i64 0, .string ⟨#[]⟩, .string ⟨#[]⟩, .bool false] 35 (0, 0)) ∧ (d = true ∧ k0 = 0 ∨ d = false ∧ pos = (k0 : Int)))
  case first =>
    clear hs
    rcases hcase with ⟨h1, h2⟩ | ⟨h1, h2, h3⟩ | ⟨h1, h2, h3⟩
    · have q1 : decide (pos < 0) = true := decide_eq_true h1
      have HF := Lib.hid h2
      clear h1 h2
      go_wp2_with fail
      go_meet
      exact ⟨_, rfl, rfl, .inl ⟨rfl, HF.out⟩⟩
    · have q1 : decide (pos < 0) = false := decide_eq_false h1
      have q2 : decide ((L : Int) < pos) = true := decide_eq_true h2
      have HF := Lib.hid h3
      clear h1 h2 h3
      go_wp2_with fail
      go_meet
      exact ⟨_, rfl, rfl, .inl ⟨rfl, HF.out⟩⟩
    · have q1 : decide (pos < 0) = false := decide_eq_false h1
      have q2 : decide ((L : Int) < pos) = false := decide_eq_false h2
      have HF := Lib.hid h3
      clear h1 h2 h3
      go_wp2_with fail
      go_meet
      exact ⟨_, rfl, rfl, .inr ⟨rfl, HF.out⟩⟩
  case rest =>
  obtain ⟨bad, rfl, rfl, hbad⟩ := hcut
  clear hcase
  go_upto_if 19 with fail
  go_cut [1] (fun s wx => s = .int .i64 (k0 : Int) ∧ wx = w.alloc (.cells #[.int .i64 0, .int .i64 0, .string ⟨#[]⟩, .string ⟨#[]⟩, .bool false] 35 (0, 0)))
  case first =>
    clear hs
    rcases hbad with ⟨rfl, rfl⟩ | ⟨rfl, h3⟩
    · go_wp2_with fail
      go_meet
      exact ⟨rfl, rfl⟩
    · have HF := Lib.hid h3
      clear h3
      go_wp2_with fail
      go_meet
      exact ⟨by rw [HF.out], rfl⟩
  case rest =>
    obtain ⟨rfl, rfl⟩ := hcut
    clear hbad
    obtain ⟨A', n', c', hA', hn', hc', hs'⟩ : ∃ A' n' c', (if c = k0 then A else A.map (·.add k0)) = A' ∧ L - k0 = n' ∧ c - k0 = c' ∧ Hid (Calls Tryd.prog 38 #[.slice A' n' c'] (w.alloc (.cells #[.int .i64 0, .int .i64 0, .string ⟨#[]⟩, .string ⟨#[]⟩, .bool false] 35 (0, 0))) (TellsSeg (xs.drop k0) (w.alloc (.cells #[.int .i64 0, .int .i64 0, .string ⟨#[]⟩, .string ⟨#[]⟩, .bool false] 35 (0, 0))))) := ⟨_, _, _, rfl, rfl, rfl, Lib.hid hs⟩
    clear hs
    go_wp2_with fail
    refine hs'.out.mono ?_
    rintro e w2 ⟨v2, rs, k, rfl, h1, h2, h3, h4, h5, h6⟩
    have hr2 := HRES.out w2 h6
    have hb2 := hs'
    have HB2 := Lib.hid (HBW.out.trans (h6.mono HBW.out.size))
    have hcn2 := HCN.out w2 h6
    obtain ⟨Aq, cq, rfl, pq, _⟩ := h2.parts fun r hr => (h3 r hr).wf
    have hq1 := pq.2.1
    have hq2 := pq.2.2.1
    unfold maxLen at hq2
    have H1 : Hid (SegIs none (xs.drop (place pos xs.length)) rs k) := Lib.hid (by rw [HK.out]; exact h1)
    have H2 := Lib.hid pq
    have H3 := Lib.hid h3
    have HR2 := Lib.hid hr2
    have HCN2 := Lib.hid hcn2
    have hll : rs.length ≤ 549755813888 := by
      rw [List.length_drop] at h4
      have := HXL.out
      omega
    have hbn := cell_block_lt hcn2
    have hbr := (Array.getElem?_eq_some_iff.1 hr2).1
    clear h1 h2 h3 h4 h5 h6 pq hs' hb2 HRES HBW HCN hr2 hcn2 hA' hn' hc' hnl hc hcm
    go_wp2_with fail
    go_loopw [29] (fun iv wr => ∃ i : Nat, iv = .int .i64 i ∧ i ≤ rs.length ∧ (rs.take i).find? (geT n) = none ∧ Below w2.heap.size w2 wr) (fun iv _ => rs.length - (intOf iv).toNat)
    case atStart => exact ⟨0, rfl, Nat.zero_le _, rfl, Below.refl _ _⟩
    case round =>
      obtain ⟨i, rfl, hi, hnf, hbel⟩ := hrel
      have HNF := Lib.hid hnf
      have HBE := Lib.hid hbel
      clear hnf
      have hbs := hbel.size
      by_cases hlt : i < rs.length
      · obtain ⟨b, off, rfl, hbl, hat⟩ := H2.out.more hlt
        obtain ⟨g0, g1, g2, g3, g4⟩ := hat.keep (w' := wr) fun j => hbel.cell hbl
        have HY := Lib.hid (fun hp => find_here (p := geT n) hlt HNF.out hp)
        have HN := Lib.hid (fun hp => find_skip (p := geT n) hlt HNF.out hp)
        obtain ⟨x, hx⟩ : ∃ x, rs[i] = x := ⟨_, rfl⟩
        rw [hx] at g0 g1 g2 g3 g4 HY HN
        obtain ⟨xo, xt, xk, xv, xd⟩ := x
        dsimp only at g0 g1 g2 g3 g4 HY HN
        have HNW := Lib.hid (fun W hb => obj_cells (new_rec_cells (w := wr) (r := ⟨xo, xt, xk, xv, xd⟩) (W := W) hb))
        have HBX := Lib.hid ((Below.refl wr.heap.size wr).alloc (Nat.le_refl _) (recO ⟨xo, xt, xk, xv, xd⟩))
        have HC := Lib.hid (vfindtimef1_any (wr.alloc (recO ⟨xo, xt, xk, xv, xd⟩)) n B xo xt xk xv xd ((HBX.out.cell (p := ⟨B, 0, none⟩) (Nat.lt_of_lt_of_le hbn hbs)).trans ((hbel.cell (p := ⟨B, 0, none⟩) hbn).trans HCN2.out)))
        unfold recO at HNW HBX HC
        dsimp only at HNW HBX HC
        clear hx hat hbl hbel
        by_cases hp : n ≤ xt
        · have hq : decide (n ≤ xt) = true := decide_eq_true hp
          rw [hq] at HC
          have HE := Lib.hid (HY.out hq)
          clear HY HN hp
          have HSTEP := Lib.hid (fun W (hb : Below (wr.alloc (.cells #[.int .i64 xo, .int .i64 xt, .string xk, .string xv, .bool xd] 35 (0, 0))).heap.size (wr.alloc (.cells #[.int .i64 xo, .int .i64 xt, .string xk, .string xv, .bool xd] 35 (0, 0))) W) => (HBE.out.trans ((HBX.out.trans (hb.mono HBX.out.size)).mono hbs)))
          have HRX := Lib.hid (fun W (hb : Below w2.heap.size w2 W) => obj_cells (r := zeroR) ((hb.block _ hbr).trans HR2.out))
          go_wp2_with (go_at_call 29; refine HC.out.mono ?_; rintro e w3 ⟨rfl, hb3⟩; obtain ⟨⟨b0, b1, b2, b3, b4⟩, _⟩ := HNW.out w3 hb3; have hs3 := HSTEP.out w3 hb3; obtain ⟨⟨r0, r1, r2, r3, r4⟩, rf⟩ := HRX.out w3 hs3; have r0f := rf 0; have r1f := rf 1; have r2f := rf 2; have r3f := rf 3; have r4f := rf 4; have HS3 := Lib.hid hs3; clear rf hs3 hb3)
          have hr3 : w3.heap[w.heap.size]? = some (recO zeroR) := (HS3.out.block _ hbr).trans HR2.out
          have HB3 := Lib.hid (HB2.out.trans (HS3.out.mono HB2.out.size))
          obtain ⟨k0, k1, k2, k3, k4⟩ := five_cells hr3 (.int .i64 xo) (.int .i64 xt) (.string xk) (.string xv) (.bool xd)
          (try simp only [Exit.inBlock, Exit.then])
          refine bodyPost_ret (by simp [results, Tryd.results26, go_sem, k0, k1, k2, k3, k4]; try rfl) rfl ?_
          exact TellsFirstOf.some H1.out H3.out HE.out (((((HB3.out.setCell (Nat.le_refl _) _).setCell (Nat.le_refl _) _).setCell (Nat.le_refl _) _).setCell (Nat.le_refl _) _).setCell (Nat.le_refl _) _)
        · have hq : decide (n ≤ xt) = false := decide_eq_false hp
          rw [hq] at HC
          have HE := Lib.hid (HN.out (by unfold geT; rw [hq]; decide))
          clear HY HN hp
          go_wp2_with (go_at_call 29; refine HC.out.mono ?_; rintro e w3 ⟨rfl, hb3⟩; have HB3 := Lib.hid (HBE.out.trans ((HBX.out.trans (hb3.mono HBX.out.size)).mono hbs)); clear hb3)
          go_roundw
          case rel => exact ⟨i + 1, by go_num, hlt, HE.out, HB3.out⟩
          case measure => simp [intOf]; omega
      · obtain rfl : i = rs.length := by omega
        have hnf := HNF.out
        rw [List.take_length] at hnf
        have HF := Lib.hid hnf
        have HB3 := Lib.hid (HB2.out.trans (hbel.mono HB2.out.size))
        have hr3 : wr.heap[w.heap.size]? = some (recO zeroR) := (hbel.block _ hbr).trans HR2.out
        obtain ⟨⟨r0, r1, r2, r3, r4⟩, rf⟩ := obj_cells hr3
        have r0f := rf 0
        have r1f := rf 1
        have r2f := rf 2
        have r3f := rf 3
        have r4f := rf 4
        have HR3 := Lib.hid hr3
        clear rf hnf hbel hr3
        go_wp2
        obtain ⟨k0, k1, k2, k3, k4⟩ := five_cells HR3.out (.int .i64 0) (.int .i64 0) (.string ⟨#[]⟩) (.string ⟨#[]⟩) (.bool false)
        (try simp only [Exit.inBlock, Exit.then])
        refine bodyPost_ret (by simp [results, Tryd.results26, go_sem, k0, k1, k2, k3, k4]; try rfl) rfl ?_
        exact TellsFirstOf.none H1.out H3.out HF.out (((((HB3.out.setCell (Nat.le_refl _) _).setCell (Nat.le_refl _) _).setCell (Nat.le_refl _) _).setCell (Nat.le_refl _) _).setCell (Nat.le_refl _) _)
set_option maxRecDepth 100000 in
set_option maxHeartbeats 1600000 in
theorem vfind_any (S : Nat → Prop) (A : Option Addr) (xs : List Int) (c : Nat) (B : Option Addr) (ms : List MarkM) (d : Nat) (n : Int) (w : World) (hh : Half w) (hm : RowsLie markRep w S B ms d) (hS : ∀ b, S b → b < w.heap.size) (hl : Lies .u8 w w.heap.size A xs) (hby : IsBytes xs) (hc : xs.length ≤ c) (hcm : c ≤ maxLen) (_ : A = none → c = 0) (hxl : xs.length ≤ 549755813888) :
    Calls Tryd.prog 12 #[.slice A xs.length c, .slice B ms.length d, .int .i64 n] w (TellsFirstOf xs (seekM ms n) (geO n) w) := by
  have hmf : ∀ (fn : Fn) (first cap : Array Value) (w : World), (Instr.makeFunc fn first cap).run Tryd.prog w = .ok (.func fn first cap) w := fun _ _ _ _ => rfl
  have h0 := hh.pos
  have HB1 : Hid (Below w.heap.size w (w.alloc (.cells #[.int .i64 n] 3))) := Lib.hid ((Below.refl _ _).alloc (Nat.le_refl _) _)
  have HB2 : Hid (Below w.heap.size w ((w.alloc (.cells #[.int .i64 n] 3)).alloc (.cells #[.int .i64 0, .int .i64 0, .string ⟨#[]⟩, .string ⟨#[]⟩, .bool false] 35))) := Lib.hid (HB1.out.alloc HB1.out.size _)
  have hn0 : ((w.alloc (.cells #[.int .i64 n] 3)).alloc (.cells #[.int .i64 0, .int .i64 0, .string ⟨#[]⟩, .string ⟨#[]⟩, .bool false] 35)).cell? ⟨w.heap.size, 0, none⟩ = some (.int .i64 n) := by simp [World.cell?_alloc_past, World.cell?_alloc_at]
  have HN0 := Lib.hid hn0
  have HSK := Lib.hid (vseek_any ((w.alloc (.cells #[.int .i64 n] 3)).alloc (.cells #[.int .i64 0, .int .i64 0, .string ⟨#[]⟩, .string ⟨#[]⟩, .bool false] 35)) S B ms d (hm.below HB2.out hS) (fun b hb => by have := hS b hb; simp; omega) n)
  obtain ⟨pos, hpos⟩ : ∃ pos, seekM ms n = pos := ⟨_, rfl⟩
  rw [hpos] at HSK ⊢
  have HFI := Lib.hid (fun W (hb : Below w.heap.size w W) (hn : W.cell? ⟨w.heap.size, 0, none⟩ = some (.int .i64 n)) => vfindfirst_any A xs c pos n w.heap.size W (hh.below hb h0) hn ((hl.below hb).more hb.size) hby hc hcm hxl)
  have hmc := hm.2.1
  have hmm := hm.2.2
  clear hl hby hm hpos hh hS
  unfold maxLen at hcm hmm
  go_enter Tryd.func12, Tryd.ntmps12
  go_wp2_with fail
  refine HSK.out.mono ?_
  rintro e w1 ⟨rfl, hb1⟩
  have hb1w := HB2.out.trans (hb1.mono HB2.out.size)
  have hn1 := (hb1.cell (p := ⟨w.heap.size, 0, none⟩) (by simp; omega)).trans HN0.out
  have HF1 := Lib.hid (HFI.out w1 hb1w hn1)
  have hr1 : w1.heap[w.heap.size + 1]? = some (recO zeroR) := by
    rw [hb1.block _ (by simp)]
    show (Array.push _ _)[_]? = _
    rw [Array.getElem?_push, if_pos (by simp)]
    rfl
  have hbr := (Array.getElem?_eq_some_iff.1 hr1).1
  have HR1 := Lib.hid hr1
  have HB3 := Lib.hid hb1w
  clear hb1 hb1w hn1 hr1 HSK HFI HN0 HB1 HB2
  go_wp2_with fail
  refine HF1.out.mono ?_
  rintro e w3 ⟨rs, k, h1, h3, hf, hb3⟩
  have hr3 : w3.heap[w.heap.size + 1]? = some (recO zeroR) := (hb3.block _ hbr).trans HR1.out
  have HB4 := Lib.hid (HB3.out.trans (hb3.mono HB3.out.size))
  have H1 := Lib.hid h1
  have H3 := Lib.hid h3
  obtain ⟨⟨r0, r1, r2, r3, r4⟩, rf⟩ := obj_cells hr3
  have r0f := rf 0
  have r1f := rf 1
  have r2f := rf 2
  have r3f := rf 3
  have r4f := rf 4
  have HR3 := Lib.hid hr3
  clear rf hr3 hb3 h1 h3 HF1 HR1 HB3 hbr
  rcases hf with ⟨ho, rfl⟩ | ⟨xo, xt, xk, xv, xd, ho, rfl⟩
  · have HO := Lib.hid ho
    clear ho
    go_wp2_with fail
    obtain ⟨k0, k1, k2, k3, k4⟩ := five_cells HR3.out (.int .i64 0) (.int .i64 0) (.string ⟨#[]⟩) (.string ⟨#[]⟩) (.bool false)
    (try simp only [Exit.inBlock, Exit.then])
    refine bodyPost_ret (by simp [results, Tryd.results12, go_sem, k0, k1, k2, k3, k4]; try rfl) rfl ?_
    exact TellsFirstOf.none H1.out H3.out HO.out (((((HB4.out.setCell (Nat.le_succ _) _).setCell (Nat.le_succ _) _).setCell (Nat.le_succ _) _).setCell (Nat.le_succ _) _).setCell (Nat.le_succ _) _)
  · have HO := Lib.hid ho
    clear ho
    go_wp2_with fail
    obtain ⟨k0, k1, k2, k3, k4⟩ := five_cells HR3.out (.int .i64 xo) (.int .i64 xt) (.string xk) (.string xv) (.bool xd)
    (try simp only [Exit.inBlock, Exit.then])
    refine bodyPost_ret (by simp [results, Tryd.results12, go_sem, k0, k1, k2, k3, k4]; try rfl) rfl ?_
    exact TellsFirstOf.some H1.out H3.out HO.out (((((HB4.out.setCell (Nat.le_succ _) _).setCell (Nat.le_succ _) _).setCell (Nat.le_succ _) _).setCell (Nat.le_succ _) _).setCell (Nat.le_succ _) _)
set_option maxRecDepth 100000 in
set_option maxHeartbeats 1600000 in
theorem vfindtime_any (S : Nat → Prop) (A : Option Addr) (xs : List Int) (c : Nat) (B : Option Addr) (ms : List MarkM) (d : Nat) (n : Int) (w : World) (hh : Half w) (hm : RowsLie markRep w S B ms d) (hS : ∀ b, S b → b < w.heap.size) (hl : Lies .u8 w w.heap.size A xs) (hby : IsBytes xs) (hc : xs.length ≤ c) (hcm : c ≤ maxLen) (_ : A = none → c = 0) (hxl : xs.length ≤ 549755813888) :
    Calls Tryd.prog 14 #[.slice A xs.length c, .slice B ms.length d, .int .i64 n] w (TellsFirstOf xs (seekTM ms n) (geT n) w) := by
  have hmf : ∀ (fn : Fn) (first cap : Array Value) (w : World), (Instr.makeFunc fn first cap).run Tryd.prog w = .ok (.func fn first cap) w := fun _ _ _ _ => rfl
  have h0 := hh.pos
  have HB1 : Hid (Below w.heap.size w (w.alloc (.cells #[.int .i64 n] 3))) := Lib.hid ((Below.refl _ _).alloc (Nat.le_refl _) _)
  have HB2 : Hid (Below w.heap.size w ((w.alloc (.cells #[.int .i64 n] 3)).alloc (.cells #[.int .i64 0, .int .i64 0, .string ⟨#[]⟩, .string ⟨#[]⟩, .bool false] 35))) := Lib.hid (HB1.out.alloc HB1.out.size _)
  have hn0 : ((w.alloc (.cells #[.int .i64 n] 3)).alloc (.cells #[.int .i64 0, .int .i64 0, .string ⟨#[]⟩, .string ⟨#[]⟩, .bool false] 35)).cell? ⟨w.heap.size, 0, none⟩ = some (.int .i64 n) := by simp [World.cell?_alloc_past, World.cell?_alloc_at]
  have HN0 := Lib.hid hn0
  have HSK := Lib.hid (vseektime_any ((w.alloc (.cells #[.int .i64 n] 3)).alloc (.cells #[.int .i64 0, .int .i64 0, .string ⟨#[]⟩, .string ⟨#[]⟩, .bool false] 35)) S B ms d (hm.below HB2.out hS) (fun b hb => by have := hS b hb; simp; omega) n)
  obtain ⟨pos, hpos⟩ : ∃ pos, seekTM ms n = pos := ⟨_, rfl⟩
  rw [hpos] at HSK ⊢
  have HFI := Lib.hid (fun W (hb : Below w.heap.size w W) (hn : W.cell? ⟨w.heap.size, 0, none⟩ = some (.int .i64 n)) => vfindtimefirst_any A xs c pos n w.heap.size W (hh.below hb h0) hn ((hl.below hb).more hb.size) hby hc hcm hxl)
  have hmc := hm.2.1
  have hmm := hm.2.2
  clear hl hby hm hpos hh hS
  unfold maxLen at hcm hmm
  go_enter Tryd.func14, Tryd.ntmps14
  go_wp2_with fail
  refine HSK.out.mono ?_
  rintro e w1 ⟨rfl, hb1⟩
  have hb1w := HB2.out.trans (hb1.mono HB2.out.size)
  have hn1 := (hb1.cell (p := ⟨w.heap.size, 0, none⟩) (by simp; omega)).trans HN0.out
  have HF1 := Lib.hid (HFI.out w1 hb1w hn1)
  have hr1 : w1.heap[w.heap.size + 1]? = some (recO zeroR) := by
    rw [hb1.block _ (by simp)]
    show (Array.push _ _)[_]? = _
    rw [Array.getElem?_push, if_pos (by simp)]
    rfl
  have hbr := (Array.getElem?_eq_some_iff.1 hr1).1
  have HR1 := Lib.hid hr1
  have HB3 := Lib.hid hb1w
  clear hb1 hb1w hn1 hr1 HSK HFI HN0 HB1 HB2
  go_wp2_with fail
  refine HF1.out.mono ?_
  rintro e w3 ⟨rs, k, h1, h3, hf, hb3⟩
  have hr3 : w3.heap[w.heap.size + 1]? = some (recO zeroR) := (hb3.block _ hbr).trans HR1.out
  have HB4 := Lib.hid (HB3.out.trans (hb3.mono HB3.out.size))
  have H1 := Lib.hid h1
  have H3 := Lib.hid h3
  obtain ⟨⟨r0, r1, r2, r3, r4⟩, rf⟩ := obj_cells hr3
  have r0f := rf 0
  have r1f := rf 1
  have r2f := rf 2
  have r3f := rf 3
  have r4f := rf 4
  have HR3 := Lib.hid hr3
  clear rf hr3 hb3 h1 h3 HF1 HR1 HB3 hbr
  rcases hf with ⟨ho, rfl⟩ | ⟨xo, xt, xk, xv, xd, ho, rfl⟩
  · have HO := Lib.hid ho
    clear ho
    go_wp2_with fail
    obtain ⟨k0, k1, k2, k3, k4⟩ := five_cells HR3.out (.int .i64 0) (.int .i64 0) (.string ⟨#[]⟩) (.string ⟨#[]⟩) (.bool false)
    (try simp only [Exit.inBlock, Exit.then])
    refine bodyPost_ret (by simp [results, Tryd.results14, go_sem, k0, k1, k2, k3, k4]; try rfl) rfl ?_
    exact TellsFirstOf.none H1.out H3.out HO.out (((((HB4.out.setCell (Nat.le_succ _) _).setCell (Nat.le_succ _) _).setCell (Nat.le_succ _) _).setCell (Nat.le_succ _) _).setCell (Nat.le_succ _) _)
  · have HO := Lib.hid ho
    clear ho
    go_wp2_with fail
    obtain ⟨k0, k1, k2, k3, k4⟩ := five_cells HR3.out (.int .i64 xo) (.int .i64 xt) (.string xk) (.string xv) (.bool xd)
    (try simp only [Exit.inBlock, Exit.then])
    refine bodyPost_ret (by simp [results, Tryd.results14, go_sem, k0, k1, k2, k3, k4]; try rfl) rfl ?_
    exact TellsFirstOf.some H1.out H3.out HO.out (((((HB4.out.setCell (Nat.le_succ _) _).setCell (Nat.le_succ _) _).setCell (Nat.le_succ _) _).setCell (Nat.le_succ _) _).setCell (Nat.le_succ _) _)
end Go.Proofs.YtffmfgbjlijpeaaDoor
