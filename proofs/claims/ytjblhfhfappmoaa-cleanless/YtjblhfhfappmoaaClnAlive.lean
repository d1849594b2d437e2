/- The example of the document holds: a contract of chapter 13's 'alive'. -/
import Derived.Test.YtjblhfhfappmoaaVClnKeep
namespace Go.Proofs.Ytjblhfhfappmoaa
open Go.RowKit

def twoA : List Rec := [⟨0, 0, ⟨#[97]⟩, ⟨#[]⟩, false⟩, ⟨1, 0, ⟨#[97]⟩, ⟨#[]⟩, false⟩]
theorem twoA_keep : keepL 2 0 0 false twoA = [⟨1, 0, ⟨#[97]⟩, ⟨#[]⟩, false⟩] := by simp [keepL, goneP, overP, twoA]
abbrev twoABox : Obj := .cells #[.int .i64 0, .int .i64 0, .string ⟨#[97]⟩, .string ⟨#[]⟩, .bool false, .int .i64 1, .int .i64 0, .string ⟨#[97]⟩, .string ⟨#[]⟩, .bool false] 32
theorem twoA_lie (w : World) : RecsLie (w.alloc twoABox) (some ⟨w.heap.size, 0, none⟩) twoA 2 := by
  have hb : (w.alloc twoABox).heap[w.heap.size]? = some twoABox := by
    show (w.heap.push _)[w.heap.size]? = _
    simp
  refine ⟨fun _ => ⟨w.heap.size, 0, rfl, by simp, fun i hi => ?_⟩, by decide, by simp [maxLen], fun r hr => ?_⟩
  · have : i = 0 ∨ i = 1 := by simp [twoA] at hi; omega
    rcases this with rfl | rfl <;> (refine ⟨?_, ?_, ?_, ?_, ?_⟩ <;> (unfold World.cell?; rw [hb]; rfl))
  · simp only [twoA, List.mem_cons, List.not_mem_nil, or_false] at hr
    rcases hr with rfl | rfl <;> (unfold Rec.wf maxLen; decide)
set_option maxHeartbeats 1600000 in
theorem alive13_any (w : World) : Calls Try.prog 7 #[] w (fun e w' => e = .returned (.bool true) ∧ Below w.heap.size w w') := by
  have H1 := Lib.hid (vkeep13_any (w.alloc twoABox) twoA (some ⟨w.heap.size, 0, none⟩) 2 (twoA_lie w) 2 0 0 false (by decide) (by decide) (by decide) (by simp [twoA]))
  rw [twoA_keep] at H1
  unfold twoABox at H1
  have e2 : twoA.length = 2 := rfl
  simp only [e2] at H1
  clear e2
  go_enter Try.func7, Try.ntmps7
  go_wp2_with fail
  refine H1.out.mono ?_
  rintro e w1 ⟨v, rfl, ho, hb⟩
  obtain ⟨B, c, rfl, hlie, _⟩ := ho.parts (by intro r hr; rcases List.mem_singleton.mp hr with rfl; unfold Rec.wf maxLen; decide)
  obtain ⟨b, off, rfl, _, d0, d1, d2, d3, d4⟩ := hlie.more (i := 0) (by simp)
  have hcc := hlie.2.1
  have hcc2 := hlie.2.2.1
  unfold maxLen at hcc2
  have HB := Lib.hid (((Below.refl w.heap.size w).alloc (Nat.le_refl _) _).trans (hb.mono (by simp)))
  clear H1 hlie hb ho
  dsimp only [List.getElem_cons_zero] at d0 d1 d2 d3 d4
  simp only [Nat.zero_mul, Nat.add_zero] at d0
  simp only [List.length_cons, List.length_nil, Nat.zero_add] at hcc ⊢
  clear d1 d2 d3 d4
  go_wp2_with fail
  go_ret
  exact ⟨rfl, HB.out⟩
end Go.Proofs.Ytjblhfhfappmoaa
