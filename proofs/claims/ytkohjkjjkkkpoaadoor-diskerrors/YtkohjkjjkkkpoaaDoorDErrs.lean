/- The statements' own 'valid'; a disk of one file and another name. -/
import Derived.Test.YtkohjkjjkkkpoaaDoorDTwo
import Derived.Test.YtkohjkjjkkkpoaaDoorRDAppend
namespace Go.Proofs.YtkohjkjjkkkpoaaDoor
open Go.RowKit Go.Maps

set_option maxHeartbeats 800000 in
theorem lawvalid_any (s : ByteArray) (w : World) (hs : s.size ≤ maxLen) : Calls Tryd.prog 25 #[.string s] w fun e w' => e = .returned (.bool (validS s)) ∧ Below w.heap.size w w' := by
  have HN := Lib.hid (rnew_any 9 w)
  have hR := rnew_disk w.heap.size w 9 (Nat.le_refl _)
  have hb0 : Below w.heap.size w (w.alloc (.cells #[.int .i64 9, .slice none 0 0] 59)) := (Below.refl _ _).alloc (Nat.le_refl _) _
  cases hv : validS s with
  | false =>
    have HA := Lib.hid (rappend_bad hR s none [] 0 hs hv)
    have e1 : appendM 9 (filesOf []) s [] = ([], 6) := by unfold appendM; rw [if_pos hv]; rfl
    rw [e1] at HA
    clear hR e1 hv
    go_enter Tryd.func25, Tryd.ntmps25
    go_wp2_with fail
    refine HN.out.mono ?_
    rintro e w1 ⟨rfl, rfl⟩
    go_wp2_with fail
    refine HA.out.mono ?_
    rintro e w2 ⟨rfl, fs', _, hL⟩
    have HB := Lib.hid (hb0.trans (hL.keep.below (base := w.heap.size) ⟨by simp, fun i hi => by subst hi; simp⟩))
    clear hL HA
    go_wp2
    go_ret
    exact ⟨rfl, HB.out⟩
  | true =>
    have HA := Lib.hid (rappend_none hR s none [] 0 hs hv (by omega) (by omega) (by simp [filesOf, usedM]) (by simp) (by simp [filesOf, usedM]) (by rfl) Lies.nil (by simp) (fun _ => rfl) (by intro c hc; cases hc) (by simp))
    have e1 : (appendM 9 (filesOf []) s []).2 = 0 := by unfold appendM; rw [if_neg (by rw [hv]; simp), if_neg (by simp [filesOf, usedM])]
    unfold RDoes at HA
    rw [e1] at HA
    clear hR e1 hv
    go_enter Tryd.func25, Tryd.ntmps25
    go_wp2_with fail
    refine HN.out.mono ?_
    rintro e w1 ⟨rfl, rfl⟩
    go_wp2_with fail
    refine HA.out.mono ?_
    rintro e w2 ⟨rfl, fs', _, hL⟩
    have HB := Lib.hid (hb0.trans (hL.keep.below (base := w.heap.size) ⟨by simp, fun i hi => by subst hi; simp⟩))
    clear hL HA
    go_wp2
    go_ret
    exact ⟨rfl, HB.out⟩
theorem has_else {f : FileM} {n : ByteArray} (h : f.name ≠ n) : hasF [f] n = false := by
  rw [hasF_cons]
  split
  · rfl
  · exact decide_eq_false h
theorem sync_bad {l : List FileM} {n : ByteArray} (h : validS n = false) : syncM l n = (l, 6) := syncM_bad h
theorem rename_one {a c : ByteArray} {b : List Int} {lo : Nat} (ha : validS a = true) (hc : validS c = true) (hne : a ≠ c) : renameM [⟨a, b, lo⟩] a c = ([⟨c, b, lo⟩], 0) := by
  have h1 := get_self ⟨a, b, lo⟩ [] ha
  dsimp only at h1
  unfold renameM
  rw [if_neg (by rw [ha, hc]; simp), h1, if_neg (by simp), if_neg hne, remove_first ha]
  simp [layF, findK, tailK, hasF]
theorem text_there : (⟨#[116, 104, 101, 114, 101]⟩ : ByteArray).size = 5 := rfl
end Go.Proofs.YtkohjkjjkkkpoaaDoor
