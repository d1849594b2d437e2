/- A contract of the document's own Rename. -/
import Derived.Test.YtefjbefmmmllbaaDoorRDRemove
import Derived.Test.YtefjbefmmmllbaaDoorDiskMap
namespace Go.Proofs.YtefjbefmmmllbaaDoor
open Go.RowKit

section
variable {base : Nat} {S : Nat → Prop} {w w' w'' : World} {p : Nat} {room : Int} {fs fs' : List FileV}
/-- A second call behind a first one. -/
theorem RLeft.trans {gs : List FileV} (hR : RDisk base S w p room fs) (h : RLeft base S w w' p room gs) (h' : RLeft base (Grow S w w') w' w'' p room fs') : RLeft base S w w'' p room fs' := by
  have hs := h.keep.size
  have hs2 := h'.keep.size
  have hk : Keep S w w'' := h.keep.trans h'.keep fun i hi hg => by
    rcases hg with hg | hg
    · exact hg
    · omega
  refine ⟨hk, h'.disk.mono (fun i hi => ?_) (hR.1.grow hk.size)⟩
  rcases hi with (h | h) | h
  · exact .inl h
  · exact .inr (by omega)
  · exact .inr (by omega)
theorem renR_bad {l : List FileM} {a b : ByteArray} (h : validS a = false ∨ validS b = false) : renameM l a b = (l, 6) := by unfold renameM; rw [if_pos h]
set_option maxHeartbeats 800000 in
theorem rrename_bad (hR : RDisk base S w p room fs) (a b : ByteArray) (ha : a.size ≤ maxLen) (hb : b.size ≤ maxLen) (hv : validS a = false ∨ validS b = false) :
    Calls Tryd.prog 22 #[.pointer (some ⟨p, 0, none⟩), .string a, .string b] w (RDoes base S p room (renameM (filesOf fs) a b) w) := by
  rw [renR_bad hv]
  have hca := refvalid_any a w ha
  have hcb := refvalid_any b w hb
  have HR := Lib.hid hR
  cases hva : validS a with
  | false =>
    rw [hva] at hca
    have HA := Lib.hid hca
    clear hca hcb hva hv hR ha hb
    go_enter Tryd.func22, Tryd.ntmps22
    go_wp2_with fail
    refine HA.out.mono ?_
    rintro e w1 ⟨rfl, rfl⟩
    go_wp2
    go_ret
    exact ⟨rfl, fs, rfl, RLeft.of_below HR.out (Below.refl _ _)⟩
  | true =>
    have hvb : validS b = false := by
      rcases hv with h | h
      · rw [hva] at h; cases h
      · exact h
    rw [hva] at hca
    rw [hvb] at hcb
    have HA := Lib.hid hca
    have HB := Lib.hid hcb
    clear hca hcb hva hvb hv hR ha hb
    go_enter Tryd.func22, Tryd.ntmps22
    go_wp2_with fail
    refine HA.out.mono ?_
    rintro e w1 ⟨rfl, rfl⟩
    go_wp2_with fail
    refine HB.out.mono ?_
    rintro e w1 ⟨rfl, rfl⟩
    go_wp2
    go_ret
    exact ⟨rfl, fs, rfl, RLeft.of_below HR.out (Below.refl _ _)⟩
/-- The tail of Rename: a file that was taken out, under its new name, into what is left. -/
theorem ren_put (hR : RDisk base S w p room fs) {w2 w3 : World} (hb2 : Below w.heap.size w w2) {gs : List FileV} (hL : RLeft base S w2 w3 p room gs) (hsb : SameBytes w2 w3) {bx : Nat} (hbx : w.heap.size ≤ bx) {nm b : ByteArray} {bv : Value} {lo : Nat} (e2 : w2.heap[bx]? = some (.cells #[.string nm, bv, .int .i64 (lo : Int)] 74 (0, 0)))
    {xb : List Int} (hsl : SlIn S w2 bv xb) (hwf : (⟨b, xb, lo⟩ : FileM).wf) (hlen : gs.length ≤ 1000000000) :
    (w3.cell? ⟨bx, 0, none⟩ = some (.string nm) ∧ w3.cell? ⟨bx, 1, none⟩ = some bv ∧ w3.cell? ⟨bx, 2, none⟩ = some (.int .i64 (lo : Int)) ∧ w3.frozen? ⟨bx, 0, none⟩ = false) ∧
    Calls Tryd.prog 41 #[.pointer (some ⟨p, 0, none⟩), .agg #[.string b, bv, .int .i64 (lo : Int)]] (w3.setCell ⟨bx, 0, none⟩ (.string b)) fun e w' => e = .returned (.tuple #[]) ∧ RLeft base S w w' p room (layV gs (⟨b, xb, lo⟩, bv)) := by
  have hbl := (Array.getElem?_eq_some_iff.1 e2).1
  have hnS : ¬ S bx := fun h => by have := (hR.1.2 bx h).2; omega
  have e3 : w3.heap[bx]? = some (.cells #[.string nm, bv, .int .i64 (lo : Int)] 74 (0, 0)) := by rw [hL.keep.block bx hbl hnS]; exact e2
  refine ⟨⟨by unfold World.cell?; rw [e3]; rfl, by unfold World.cell?; rw [e3]; rfl, by unfold World.cell?; rw [e3]; rfl, by simp [World.frozen?, e3]⟩, ?_⟩
  have hk4 : Keep (fun i => i = bx) w3 (w3.setCell ⟨bx, 0, none⟩ (.string b)) := (Keep.refl (fun i => i = bx) w3).setCell (p := ⟨bx, 0, none⟩) (.inl rfl) _
  have hR4 := hL.disk.keep hk4 fun i hi he => by
    subst he
    rcases hi with hi | hi
    · exact hnS hi
    · omega
  have hs4 : SlIn (Grow S w2 w3) (w3.setCell ⟨bx, 0, none⟩ (.string b)) bv xb := by
    refine hsl.same fun g cur fr hg hc => ⟨.inl hg, ?_⟩
    rw [heap_setCell_other _ _ _ _ (show g ≠ bx from fun e => hnS (e ▸ hg))]
    exact hsb g cur fr hc
  refine (rput_any hR4 (⟨b, xb, lo⟩, bv) hs4 hwf hlen).mono ?_
  rintro e w5 ⟨rfl, h5⟩
  have z2 := hb2.size
  have z3 := hL.keep.size
  have z4 : (w3.setCell ⟨bx, 0, none⟩ (.string b)).heap.size = w3.heap.size := by simp
  have z5 := h5.keep.size
  have hk : Keep S w w5 := by
    refine ⟨h5.keep.os.trans (hk4.os.trans (hL.keep.os.trans hb2.os)), h5.keep.tape.trans (hk4.tape.trans (hL.keep.tape.trans hb2.tape)), h5.keep.output.trans (hk4.output.trans (hL.keep.output.trans hb2.output)), by omega, fun i hi hn => ?_⟩
    rw [h5.keep.block i (by omega) fun hg => ?_, hk4.block i (by omega) (by show ¬ i = bx; omega), hL.keep.block i (by omega) hn, hb2.block i hi]
    rcases hg with hg | hg
    · exact hn hg
    · omega
  refine ⟨rfl, hk, h5.disk.mono (fun i hi => ?_) (hR.1.grow hk.size)⟩
  rcases hi with (h | h) | h
  · exact .inl h
  · exact .inr (by omega)
  · exact .inr (by omega)
set_option maxHeartbeats 1600000 in
theorem rrename_right (hR : RDisk base S w p room fs) (a b : ByteArray) (ha : a.size ≤ maxLen) (hb : b.size ≤ maxLen) (hva : validS a = true) (hvb : validS b = true) (hlen : fs.length ≤ 100000000) :
    Calls Tryd.prog 22 #[.pointer (some ⟨p, 0, none⟩), .string a, .string b] w (RDoes base S p room (renameM (filesOf fs) a b) w) := by
  have hca := refvalid_any a w ha
  have hcb := refvalid_any b w hb
  rw [hva] at hca
  rw [hvb] at hcb
  have HA := Lib.hid hca
  have HB := Lib.hid hcb
  have HG := Lib.hid (rget_any base S w p room fs a hR ha)
  have hwf := get_wf hR a
  unfold renameM
  rw [if_neg (by rw [hva, hvb]; simp)]
  obtain ⟨f, er, hfe⟩ : ∃ f er, getM (filesOf fs) a = (f, er) := ⟨_, _, rfl⟩
  rw [hfe] at HG hwf ⊢
  clear hfe hca hcb
  dsimp only at hwf ⊢
  have HR := Lib.hid hR
  by_cases he : er = 0
  · subst he
    rw [if_neg (by simp)]
    by_cases hab : a = b
    · subst hab
      rw [if_pos rfl]
      have hq : (a.toList == a.toList) = true := by simp
      clear hwf hR ha hb hva hvb
      go_enter Tryd.func22, Tryd.ntmps22
      go_wp2_with fail
      refine HA.out.mono ?_
      rintro e w1 ⟨rfl, rfl⟩
      go_wp2_with fail
      refine HB.out.mono ?_
      rintro e w1 ⟨rfl, rfl⟩
      go_wp2_with fail
      refine HG.out.mono ?_
      rintro e w1 ⟨bv, rfl, hsl, hb1⟩
      obtain ⟨A, c, rfl, _⟩ := id hsl
      dsimp only
      clear HG hsl
      go_wp2
      go_ret
      exact ⟨rfl, fs, rfl, RLeft.of_below HR.out (hb1.alloc hb1.size _)⟩
    · rw [if_neg hab]
      have hq : (a.toList == b.toList) = false := by rw [name_beq]; exact decide_eq_false hab
      obtain ⟨R1, hR1⟩ : ∃ R1, removeM (filesOf fs) a = R1 := ⟨_, rfl⟩
      have hlr : R1.1.length ≤ fs.length := by
        rw [← hR1, ← filesOf_length fs]
        unfold removeM
        split
        · exact Nat.le_refl _
        · dsimp only
          rw [List.length_append, List.length_take, List.length_drop]
          omega
      have RM := Lib.hid (fun W (h : Below w.heap.size w W) => rremove_any (hR.below h) a ha (by omega))
      rw [hR1] at RM ⊢
      have RP := Lib.hid (fun w2 (h2 : Below w.heap.size w w2) w3 gs (hL : RLeft base S w2 w3 p room gs) hsb bx hbx nm bv (lo : Nat) e2 xb hsl hw hl => ren_put (b := b) hR h2 hL hsb (bx := bx) hbx (nm := nm) (bv := bv) (lo := lo) e2 (xb := xb) hsl hw hl)
      have HWF := Lib.hid (show (⟨b, f.b, f.loose⟩ : FileM).wf from ⟨hb, hwf.2⟩)
      have HLR := Lib.hid (show R1.1.length ≤ 1000000000 by omega)
      clear hwf hR ha hb hva hvb hlr hR1 hab hlen
      go_enter Tryd.func22, Tryd.ntmps22
      go_wp2_with fail
      refine HA.out.mono ?_
      rintro e w1 ⟨rfl, rfl⟩
      go_wp2_with fail
      refine HB.out.mono ?_
      rintro e w1 ⟨rfl, rfl⟩
      go_wp2_with fail
      refine HG.out.mono ?_
      rintro e w1 ⟨bv, rfl, hsl, hb1⟩
      have hsl1 := hsl.below hb1
      obtain ⟨A, c, rfl, _⟩ := id hsl
      dsimp only at hsl1 ⊢
      have HB2 := Lib.hid (hb1.alloc hb1.size (.cells #[.string f.name, .slice A f.b.length c, .int .i64 (f.loose : Int)] 74))
      have hsl2 := hsl1.below (w' := w1.alloc (.cells #[.string f.name, .slice A f.b.length c, .int .i64 (f.loose : Int)] 74)) ((Below.refl _ _).alloc (Nat.le_refl _) _)
      have hbx : (w1.alloc (.cells #[.string f.name, .slice A f.b.length c, .int .i64 (f.loose : Int)] 74)).heap[w1.heap.size]? = some (.cells #[.string f.name, .slice A f.b.length c, .int .i64 (f.loose : Int)] 74 (0, 0)) := by
        show (w1.heap.push _)[w1.heap.size]? = _
        simp
      have RP2 := Lib.hid (fun w3 gs hL hsb hl => RP.out _ HB2.out w3 gs hL hsb w1.heap.size hb1.size _ _ f.loose hbx f.b hsl2 HWF.out hl)
      have RM2 := Lib.hid (RM.out _ HB2.out)
      clear hsl hsl1 hsl2 hbx hb1 HG RM RP
      go_wp2_with fail
      refine RM2.out.mono ?_
      rintro e w3 ⟨⟨rfl, gs, hgs, hL⟩, hsb⟩
      obtain ⟨⟨k0, k1, k2, f0⟩, hput⟩ := RP2.out w3 gs hL hsb (by rw [← filesOf_length, hgs]; exact HLR.out)
      have HP := Lib.hid hput
      have HGS := Lib.hid hgs
      clear hput hL hsb hgs RP2 RM2
      go_wp2_with fail
      refine HP.out.mono ?_
      rintro e w5 ⟨rfl, h5⟩
      have FL := Lib.hid h5
      clear h5 HP k0 k1 k2 f0
      go_wp2
      go_ret
      exact ⟨rfl, layV gs (⟨b, f.b, f.loose⟩, .slice A f.b.length c), by rw [← HGS.out]; exact filesOf_layV gs _, FL.out⟩
  · rw [if_pos he]
    have hne : (er != 0) = true := by simpa using he
    clear hwf hR ha hb hva hvb
    go_enter Tryd.func22, Tryd.ntmps22
    go_wp2_with fail
    refine HA.out.mono ?_
    rintro e w1 ⟨rfl, rfl⟩
    go_wp2_with fail
    refine HB.out.mono ?_
    rintro e w1 ⟨rfl, rfl⟩
    go_wp2_with fail
    refine HG.out.mono ?_
    rintro e w1 ⟨bv, rfl, hsl, hb1⟩
    obtain ⟨A, c, rfl, _⟩ := id hsl
    dsimp only
    clear HG hsl
    go_wp2
    go_ret
    exact ⟨rfl, fs, rfl, RLeft.of_below HR.out (hb1.alloc hb1.size _)⟩
end
end Go.Proofs.YtefjbefmmmllbaaDoor
