/- Marks of two records: a contract of chapter 9's 'alive'; and of its 'marks'. -/
import Derived.Test.YtffmfgbjlijpeaaDoorIxProg
import Derived.Test.YtffmfgbjlijpeaaDoorSegBig
import Derived.StillTailTactics
namespace Go.Proofs.YtffmfgbjlijpeaaDoor
open Go.RowKit

def twoI : List Rec := [⟨0, 0, ⟨#[97]⟩, ⟨#[]⟩, false⟩, ⟨5, 0, ⟨#[98]⟩, ⟨#[]⟩, false⟩]
theorem twoI_right : ∀ r ∈ twoI, r.right := by
  intro r hr
  simp only [twoI, List.mem_cons, List.not_mem_nil, or_false] at hr
  rcases hr with rfl | rfl <;> decide
abbrev twoIBox : Obj := .cells #[.int .i64 0, .int .i64 0, .string ⟨#[97]⟩, .string ⟨#[]⟩, .bool false, .int .i64 5, .int .i64 0, .string ⟨#[98]⟩, .string ⟨#[]⟩, .bool false] 35
theorem twoI_lie (w : World) : RecsLie (w.alloc twoIBox) (some ⟨w.heap.size, 0, none⟩) twoI 2 := by
  have hb : (w.alloc twoIBox).heap[w.heap.size]? = some twoIBox := by
    show (w.heap.push _)[w.heap.size]? = _
    simp
  refine ⟨fun _ => ⟨w.heap.size, 0, rfl, by simp, fun i hi => ?_⟩, by decide, by simp [maxLen], fun r hr => (twoI_right r hr).wf⟩
  have : i = 0 ∨ i = 1 := by simp [twoI] at hi; omega
  rcases this with rfl | rfl <;> (refine ⟨?_, ?_, ?_, ?_, ?_⟩ <;> (unfold World.cell?; rw [hb]; rfl))
theorem twoI_marks : ∃ t p, makeM (evN 1) (goods twoI) = [⟨0, leastT, 0⟩, ⟨5, t, p⟩] ∧ 0 < p := by
  rw [goods_all twoI_right, show evN 1 = 1 from rfl]
  have e : twoI = ([] ++ [⟨0, 0, ⟨#[97]⟩, ⟨#[]⟩, false⟩]) ++ [⟨5, 0, ⟨#[98]⟩, ⟨#[]⟩, false⟩] := rfl
  refine ⟨mostT ([] ++ [⟨0, 0, ⟨#[97]⟩, ⟨#[]⟩, false⟩]), ((segF ([] ++ [⟨0, 0, ⟨#[97]⟩, ⟨#[]⟩, false⟩])).length : Nat), ?_, ?_⟩
  · rw [e, makeM_snoc, makeM_snoc, if_pos (Nat.mod_one _), if_pos (Nat.mod_one _)]
    rfl
  · have := (frame_rec_length ⟨0, 0, ⟨#[97]⟩, ⟨#[]⟩, false⟩ (twoI_right _ (by simp [twoI]))).1
    have h2 : (segF ([] ++ [(⟨0, 0, ⟨#[97]⟩, ⟨#[]⟩, false⟩ : Rec)])).length = (frameL (recL ⟨0, 0, ⟨#[97]⟩, ⟨#[]⟩, false⟩)).length := by
      rw [List.nil_append, segF_cons]
      simp [segF]
    omega
set_option maxHeartbeats 1600000 in
theorem alive9_any (w : World) (hh : Half w) : Calls Tryd.prog 7 #[] w (Yes w) := by
  have h0 := hh.pos
  obtain ⟨t, p, hms, hp⟩ := twoI_marks
  have H1 := Lib.hid (vmake_any (w.alloc twoIBox) (hh.below ((Below.refl _ _).alloc (Nat.le_refl _) _) h0) twoI (some ⟨w.heap.size, 0, none⟩) 2 (twoI_lie w) 1 (by omega) (by simp [twoI]))
  have HB0 : Hid (Below w.heap.size w (w.alloc twoIBox)) := Lib.hid ((Below.refl _ _).alloc (Nat.le_refl _) _)
  have H2 : Hid (∀ W, Below w.heap.size w W → Calls Tryd.prog 10 #[.slice none 0 0, .int .i64 1] W (NewMarks 46 W [])) := Lib.hid (fun W hb => vmake_any W (hh.below hb h0) [] none 0 ⟨fun h => absurd rfl h, Nat.le_refl _, Nat.zero_le _, fun _ h => by cases h⟩ 1 (by omega) (by simp))
  rw [hms] at H1
  have e2 : twoI.length = 2 := rfl
  rw [e2] at H1
  unfold twoIBox at H1 HB0
  have q1 : decide (0 < p) = true := decide_eq_true hp
  clear e2 h0 hh hms hp
  go_enter Tryd.func7, Tryd.ntmps7
  go_wp2_with fail
  refine H1.out.mono ?_
  rintro e w1 ⟨v, rfl, ho, hb⟩
  obtain ⟨B, c, rfl, hl, _⟩ := OwnS.parts ho
  have hc1 := hl.2.1
  have hc2 := hl.2.2
  unfold maxLen at hc2
  obtain ⟨b, off, rfl, hbl, _, g0, g1, g2⟩ := MarksLie.at_ hl (i := 0) (by simp)
  obtain ⟨b', off', e', _, _, d0, d1, d2⟩ := MarksLie.at_ hl (i := 1) (by simp)
  injection e' with e'
  injection e' with e1 e2
  subst e1 e2
  simp only [Nat.zero_mul, Nat.add_zero, Nat.one_mul, List.getElem_cons_zero, List.getElem_cons_succ] at g0 g1 g2 d0 d1 d2
  have HBB := Lib.hid (HB0.out.trans (hb.mono HB0.out.size))
  have H3 := Lib.hid (H2.out w1 HBB.out)
  clear hl ho hb H1 H2
  go_wp2_with (go_at_call 10; refine H3.out.mono ?_; rintro e w2 ⟨v2, rfl, ho2, hb2⟩; obtain ⟨B2, c2, rfl, hl2, _⟩ := OwnS.parts ho2; have hc3 := hl2.2.1; have hc4 := hl2.2.2; unfold maxLen at hc4; have HB2 := Lib.hid (HBB.out.trans (hb2.mono HBB.out.size)); clear hl2 ho2 hb2)
  go_ret
  exact ⟨rfl, HB2.out⟩
theorem imark_cells {w : World} {S : Nat → Prop} {A : Option Addr} {ms : List MarkM} {cap : Nat} (h : RowsLie markRep w S A ms cap) {i : Nat} (hi : i < ms.length) (m : MarkM) (hm : ms[i] = m) :
    ∃ b off, A = some ⟨b, off, none⟩ ∧ b < w.heap.size ∧ S b ∧ w.cell? ⟨b, off + i * 3, none⟩ = some (.int .i64 m.off) ∧ w.cell? ⟨b, off + i * 3 + 1, none⟩ = some (.int .i64 m.time) ∧ w.cell? ⟨b, off + i * 3 + 2, none⟩ = some (.int .i64 m.pos) := by
  subst hm
  exact MarksLie.at_ h hi
set_option maxHeartbeats 1600000 in
theorem marks_any (w : World) (S : Nat → Prop) (A : Option Addr) (ms : List MarkM) (cap : Nat) (h : RowsLie markRep w S A ms cap) (hS : ∀ b, S b → b < w.heap.size) (hl : ms.length ≤ 1000000) :
    Calls Tryd.prog 9 #[.slice A ms.length cap] w (NewMarks 31 w ms) := by
  have hcl := h.2.1
  have hcm := h.2.2
  unfold maxLen at hcm
  have H := Lib.hid h
  have HL := Lib.hid hl
  have HS := Lib.hid hS
  clear h hl hS
  go_enter Tryd.func9, Tryd.ntmps9
  go_wp2_with fail
  go_loopw [3, 4] (fun v iv wr => ∃ i : Nat, iv = .int .i64 i ∧ i ≤ ms.length ∧ OwnM 31 wr w.heap.size v (ms.take i) ∧ Below w.heap.size w wr) (fun _ iv _ => ms.length - (intOf iv).toNat)
  case atStart => exact ⟨0, rfl, Nat.zero_le _, OwnS.nil (fun _ h => h.elim), Below.refl _ _⟩
  case round =>
    obtain ⟨i, rfl, hi, hown, hbel⟩ := hrel
    have hll := HL.out
    have HO := Lib.hid hown
    have HB := Lib.hid hbel
    by_cases hlt : i < ms.length
    · have hk := H.out.below hbel HS.out
      obtain ⟨m, hm⟩ : ∃ m, ms[i] = m := ⟨_, rfl⟩
      obtain ⟨b, off, rfl, hbl, hsb, g0, g1, g2⟩ := imark_cells hk hlt m hm
      have hbS := HS.out b hsb
      have HE : Hid (ms.take (i + 1) = ms.take i ++ [m]) := Lib.hid (by rw [List.take_succ_eq_append_getElem hlt, hm])
      obtain ⟨mo, mt, mp⟩ := m
      dsimp only at g0 g1 g2
      obtain ⟨Bo, co, rfl, hlie, _⟩ := OwnS.parts hown
      have hlc := hlie.2.1
      have hlm := hlie.2.2
      unfold maxLen at hlm
      have hbs := hbel.size
      have htl : (ms.take i).length = i := by rw [List.length_take]; omega
      rw [htl] at hlc ⊢
      rw [htl] at HO
      clear hk hm hown hbel hlie htl
      go_wp2_with fail
      refine wp_region_held_drew (S := fun W => W.cell? ⟨b, off + i * 3, none⟩ = some (.int .i64 mo) ∧ W.cell? ⟨b, off + i * 3 + 1, none⟩ = some (.int .i64 mt) ∧ W.cell? ⟨b, off + i * 3 + 2, none⟩ = some (.int .i64 mp)) (by kernel_rfl) ⟨g0, g1, g2⟩ (fun hHeld => ?_)
      refine held_take 0 11 (v := ?v0) rfl rfl (by kernel_rfl) (by kernel_rfl) (by kernel_rfl) (fun _ _ _ h => h) hHeld (Or.inl ⟨by rfl, ?y0⟩) ?r0
      case y0 => intro w hSw; (try dsimp only at hSw); go_simp; (try with_reducible rfl)
      simp only [List.setIfInBounds_toArray, List.set_cons_zero, List.set_cons_succ]
      refine held_take 1 12 (v := ?v1) rfl rfl (by kernel_rfl) (by kernel_rfl) (by kernel_rfl) (fun _ _ _ h => h) hHeld (Or.inl ⟨by rfl, ?y1⟩) ?r1
      case y1 => intro w hSw; (try dsimp only at hSw); go_simp; (try with_reducible rfl)
      simp only [List.setIfInBounds_toArray, List.set_cons_zero, List.set_cons_succ]
      refine held_take 2 13 (v := ?v2) rfl rfl (by kernel_rfl) (by kernel_rfl) (by kernel_rfl) (fun _ _ _ h => h) hHeld (Or.inl ⟨by rfl, ?y2⟩) ?r2
      case y2 => intro w hSw; (try dsimp only at hSw); go_simp; (try with_reducible rfl)
      simp only [List.setIfInBounds_toArray, List.set_cons_zero, List.set_cons_succ]
      refine held_take 3 14 (v := ?v3) rfl rfl (by kernel_rfl) (by kernel_rfl) (by kernel_rfl) (fun _ _ _ h => h) hHeld (Or.inl ⟨by rfl, ?y3⟩) ?r3
      case y3 => intro w hSw; (try dsimp only at hSw); go_simp; (try with_reducible rfl)
      simp only [List.setIfInBounds_toArray, List.set_cons_zero, List.set_cons_succ]
      refine held_take 4 15 (v := ?v4) rfl rfl (by kernel_rfl) (by kernel_rfl) (by kernel_rfl) (fun _ _ _ h => h) hHeld (Or.inl ⟨by rfl, ?y4⟩) ?r4
      case y4 => intro w hSw; (try dsimp only at hSw); go_simp; (try with_reducible rfl)
      simp only [List.setIfInBounds_toArray, List.set_cons_zero, List.set_cons_succ]
      refine held_take 5 16 (v := ?v5) rfl rfl (by kernel_rfl) (by kernel_rfl) (by kernel_rfl) (fun _ _ _ h => h) hHeld (Or.inl ⟨by rfl, ?y5⟩) ?r5
      case y5 => intro w hSw; (try dsimp only at hSw); go_simp; (try with_reducible rfl)
      simp only [List.setIfInBounds_toArray, List.set_cons_zero, List.set_cons_succ]
      refine held_take 6 17 (v := ?v6) rfl rfl (by kernel_rfl) (by kernel_rfl) (by kernel_rfl) (fun _ _ _ h => h) hHeld (Or.inl ⟨by rfl, ?y6⟩) ?r6
      case y6 => intro w hSw; (try dsimp only at hSw); go_simp; (try with_reducible rfl)
      simp only [List.setIfInBounds_toArray, List.set_cons_zero, List.set_cons_succ]
      refine held_take 7 18 (v := ?v7) rfl rfl (by kernel_rfl) (by kernel_rfl) (by kernel_rfl) (fun _ _ _ h => h) hHeld (Or.inl ⟨by rfl, ?y7⟩) ?r7
      case y7 => intro w hSw; (try dsimp only at hSw); go_simp; (try with_reducible rfl)
      simp only [List.setIfInBounds_toArray, List.set_cons_zero, List.set_cons_succ]
      refine held_take 8 19 (v := ?v8) rfl rfl (by kernel_rfl) (by kernel_rfl) (by kernel_rfl) (fun _ _ _ h => h) hHeld (Or.inl ⟨by rfl, ?y8⟩) ?r8
      case y8 => intro w hSw; (try dsimp only at hSw); go_simp; (try with_reducible rfl)
      simp only [List.setIfInBounds_toArray, List.set_cons_zero, List.set_cons_succ]
      refine held_take 9 20 (v := ?v9) rfl rfl (by kernel_rfl) (by kernel_rfl) (by kernel_rfl) (fun _ _ _ h => h) hHeld (Or.inl ⟨by rfl, ?y9⟩) ?r9
      case y9 => intro w hSw; (try dsimp only at hSw); go_simp; (try with_reducible rfl)
      simp only [List.setIfInBounds_toArray, List.set_cons_zero, List.set_cons_succ]
      refine held_take 10 21 (v := ?v10) rfl rfl (by kernel_rfl) (by kernel_rfl) (by kernel_rfl) (fun _ _ _ h => h) hHeld (Or.inl ⟨by rfl, ?y10⟩) ?r10
      case y10 => intro w hSw; (try dsimp only at hSw); go_simp; (try with_reducible rfl)
      simp only [List.setIfInBounds_toArray, List.set_cons_zero, List.set_cons_succ]
      refine held_take 11 22 (v := ?v11) rfl rfl (by kernel_rfl) (by kernel_rfl) (by kernel_rfl) (fun _ _ _ h => h) hHeld (Or.inl ⟨by rfl, ?y11⟩) ?r11
      case y11 => intro w hSw; (try dsimp only at hSw); go_simp; (try with_reducible rfl)
      simp only [List.setIfInBounds_toArray, List.set_cons_zero, List.set_cons_succ]
      refine held_take 12 23 (v := ?v12) rfl rfl (by kernel_rfl) (by kernel_rfl) (by kernel_rfl) (fun _ _ _ h => h) hHeld (Or.inl ⟨by rfl, ?y12⟩) ?r12
      case y12 => intro w hSw; (try dsimp only at hSw); go_simp; (try with_reducible rfl)
      simp only [List.setIfInBounds_toArray, List.set_cons_zero, List.set_cons_succ]
      refine held_take 13 24 (v := ?v13) rfl rfl (by kernel_rfl) (by kernel_rfl) (by kernel_rfl) (fun _ _ _ h => h) hHeld (Or.inl ⟨by rfl, ?y13⟩) ?r13
      case y13 => intro w hSw; (try dsimp only at hSw); go_simp; (try with_reducible rfl)
      simp only [List.setIfInBounds_toArray, List.set_cons_zero, List.set_cons_succ]
      refine held_take 14 25 (v := ?v14) rfl rfl (by kernel_rfl) (by kernel_rfl) (by kernel_rfl) (fun _ _ _ h => h) hHeld (Or.inl ⟨by rfl, ?y14⟩) ?r14
      case y14 => intro w hSw; (try dsimp only at hSw); go_simp; (try with_reducible rfl)
      simp only [List.setIfInBounds_toArray, List.set_cons_zero, List.set_cons_succ]
      refine held_take 15 26 (v := ?v15) rfl rfl (by kernel_rfl) (by kernel_rfl) (by kernel_rfl) (fun _ _ _ h => h) hHeld (Or.inl ⟨by rfl, ?y15⟩) ?r15
      case y15 => intro w hSw; (try dsimp only at hSw); go_simp; (try with_reducible rfl)
      simp only [List.setIfInBounds_toArray, List.set_cons_zero, List.set_cons_succ]
      refine held_take 16 27 (v := ?v16) rfl rfl (by kernel_rfl) (by kernel_rfl) (by kernel_rfl) (fun _ _ _ h => h) hHeld (Or.inl ⟨by rfl, ?y16⟩) ?r16
      case y16 => intro w hSw; (try dsimp only at hSw); go_simp; (try with_reducible rfl)
      simp only [List.setIfInBounds_toArray, List.set_cons_zero, List.set_cons_succ]
      have HO2 := Lib.hid (OwnS.below HO.out (Below.refl _ wr).drew)
      have HB2 := Lib.hid HB.out.drew
      have hbs2 := HB2.out.size
      have hkA : ∀ j : Nat, ((wr.alloc (.cells #[.int .i64 mo, .int .i64 mt, .int .i64 mp] 31)).drew).cell? ⟨b, j, none⟩ = wr.cell? ⟨b, j, none⟩ := fun j => World.cell?_of_block (w := wr) (w' := (wr.alloc (.cells #[.int .i64 mo, .int .i64 mt, .int .i64 mp] 31)).drew) (a := ⟨b, j, none⟩) (Below.heap_alloc wr _ b hbl)
      refine wpAnyH_ready (rs := [17]) (by kernel_rfl) (by simp) ?_
      refine AllReadyH.cons rfl (fun K hK => ?_) AllReadyH.nil
      go_simp
      refine hK.out _ _ ⟨(hkA _).trans g0, (hkA _).trans g1, (hkA _).trans g2⟩ (fun _ => ?_)
      clear hK K
      try simp only [Act.put, List.setIfInBounds_toArray, List.set_cons_zero, List.set_cons_succ]
      refine wpAnyH_ready (rs := [18]) (by kernel_rfl) (by simp) ?_
      refine AllReadyH.cons (o := ⟨some 29, _, _, _, _, _⟩) rfl (fun K hK => ?_) AllReadyH.nil
      rw [if_pos (by rfl)]
      refine wp_append_one (R := markRep) (.tmp 11) (.tmp 28) 25 31 rfl Tryd.underlying25 _ mark_info rfl w.heap.size _ (ms.take i) rfl wr.drew ⟨mo, mt, mp⟩ (markCells ⟨mo, mt, mp⟩) rfl rfl HO2.out wr.heap.size rfl rfl (by rw [List.length_take]; omega) hbs2 ?_
      intro v4 w4 hown4 hb4 _ _
      have hkB : ∀ j : Nat, w4.cell? ⟨b, j, none⟩ = wr.cell? ⟨b, j, none⟩ := fun j => hb4.cell (p := ⟨b, j, none⟩) hbS
      refine hK.out _ _ ⟨(hkB _).trans g0, (hkB _).trans g1, (hkB _).trans g2⟩ (fun _ => ?_)
      clear hK K hHeld
      have hHeld := And.intro ((hkB (off + i * 3)).trans g0) (And.intro ((hkB (off + i * 3 + 1)).trans g1) ((hkB (off + i * 3 + 2)).trans g2))
      simp only [Act.put, List.setIfInBounds_toArray, List.set_cons_zero, List.set_cons_succ]
      refine held_take 19 3 (v := ?v30) rfl rfl (by kernel_rfl) (by kernel_rfl) (by kernel_rfl) (fun _ _ _ h => h) hHeld (Or.inl ⟨by rfl, ?y30⟩) ?r30
      case y30 => intro w hSw; (try dsimp only at hSw); go_simp; (try with_reducible rfl)
      simp only [List.setIfInBounds_toArray, List.set_cons_zero, List.set_cons_succ]
      refine wpAnyH_done (by kernel_rfl) ?_ _
      have HO4 := Lib.hid hown4
      have HB4 := Lib.hid (HB2.out.trans hb4)
      clear hHeld hown4 hb4 hkA hkB g0 g1 g2
      go_wp2_with fail
      go_roundw
      case rel => exact ⟨i + 1, by go_num, hlt, by rw [HE.out]; exact HO4.out, HB4.out⟩
      case measure => simp [intOf]; omega
    · obtain rfl : i = ms.length := by omega
      clear hown hbel
      go_wp2_with fail
      go_ret
      refine ⟨_, rfl, ?_, HB.out⟩
      have := HO.out
      rw [List.take_length] at this
      exact this
end Go.Proofs.YtffmfgbjlijpeaaDoor
