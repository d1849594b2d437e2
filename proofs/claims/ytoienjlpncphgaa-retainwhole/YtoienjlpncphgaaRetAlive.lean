/- The example of the document holds: a contract of chapter 14's 'alive'. -/
import Derived.Test.YtoienjlpncphgaaVDrop
namespace Go.Proofs.Ytoienjlpncphgaa
open Go.RowKit

def twoS : List LSeg := [⟨0, 0, 1, 0, [], true, false, false, 0, 0⟩, ⟨0, 0, 0, 0, [], false, false, false, 0, 0⟩]
theorem twoS_drop : dropL 0 5 9 twoS = 1 := by simp [dropL, goesB, oldB, muchB, twoS]
abbrev twoSBox : Obj := .cells #[.int .i64 0, .int .i64 0, .int .i64 1, .int .i64 0, .slice none 0 0, .bool true, .bool false, .bool false, .int .i64 0, .int .u32 0, .int .i64 0, .int .i64 0, .int .i64 0, .int .i64 0, .slice none 0 0, .bool false, .bool false, .bool false, .int .i64 0, .int .u32 0] 31
theorem twoS_lie (w : World) : RowsLie segRep (w.alloc twoSBox) (fun b => b < (w.alloc twoSBox).heap.size) (some ⟨w.heap.size, 0, none⟩) twoS 2 := by
  have hb : (w.alloc twoSBox).heap[w.heap.size]? = some twoSBox := by
    show (w.heap.push _)[w.heap.size]? = _
    simp
  refine ⟨fun _ => ⟨w.heap.size, 0, rfl, by simp, by simp, fun i hi => ?_⟩, by decide, by simp [maxLen]⟩
  have : i = 0 ∨ i = 1 := by simp [twoS] at hi; omega
  rcases this with rfl | rfl
  · refine ⟨_, ⟨none, 0, rfl, RecsIn.nil⟩, fun j u hu => ?_⟩
    match j, hu with
    | 0, hu | 1, hu | 2, hu | 3, hu | 4, hu | 5, hu | 6, hu | 7, hu | 8, hu | 9, hu => unfold World.cell?; rw [hb]; exact hu
  · refine ⟨_, ⟨none, 0, rfl, RecsIn.nil⟩, fun j u hu => ?_⟩
    match j, hu with
    | 0, hu | 1, hu | 2, hu | 3, hu | 4, hu | 5, hu | 6, hu | 7, hu | 8, hu | 9, hu => unfold World.cell?; rw [hb]; exact hu
theorem twoS_wf : ∀ s ∈ twoS, s.wf := by
  intro s hs
  simp only [twoS, List.mem_cons, List.not_mem_nil, or_false] at hs
  rcases hs with rfl | rfl <;> (unfold LSeg.wf; decide)
set_option maxHeartbeats 1600000 in
theorem alive14_any (w : World) : Calls Try.prog 6 #[] w (fun e w' => e = .returned (.bool true) ∧ Below w.heap.size w w') := by
  have HV := Lib.hid (fun W => vdrop_any W (fun _ => False) [] none 0 (RowsLie.nil (Nat.zero_le _)) (fun _ h => h.elim) (fun _ h => by cases h) 0 0 5 0 9 (by decide) (by decide) (by decide) (by decide))
  have HT := Lib.hid (fun W => vdrop_any (w := W.alloc twoSBox) (fun b => b < (W.alloc twoSBox).heap.size) twoS (some ⟨W.heap.size, 0, none⟩) 2 (twoS_lie W) (fun _ h => h) twoS_wf 0 0 5 0 9 (by decide) (by decide) (by decide) (by decide))
  rw [twoS_drop] at HT
  have hb0 : Below w.heap.size w (w.alloc (.cells #[.int .i64 0, .int .i64 0, .int .i64 5, .int .i64 0] 24)) := (Below.refl _ _).alloc (Nat.le_refl _) _
  have hw0 := heap_alloc_new w (.cells #[.int .i64 0, .int .i64 0, .int .i64 5, .int .i64 0] 24)
  have hs0 : (w.alloc (.cells #[.int .i64 0, .int .i64 0, .int .i64 5, .int .i64 0] 24)).heap.size = w.heap.size + 1 := by simp
  have H0 := Lib.hid (And.intro hb0 (And.intro hw0 hs0))
  clear hb0 hw0 hs0
  go_enter Try.func6, Try.ntmps6
  go_wp2_with fail
  refine (HV.out _).mono ?_
  rintro e w1 ⟨rfl, hb1⟩
  have hk : w1.heap[w.heap.size]? = some (.cells #[.int .i64 0, .int .i64 0, .int .i64 5, .int .i64 0] 24) := (hb1.block _ (by rw [H0.out.2.2]; omega)).trans H0.out.2.1
  have hb2 : Below w.heap.size w (w1.alloc twoSBox) := (H0.out.1.trans (hb1.mono (by rw [H0.out.2.2]; omega))).alloc (by have := hb1.size; rw [H0.out.2.2] at this; omega) _
  have hk2 : (w1.alloc twoSBox).heap[w.heap.size]? = some (.cells #[.int .i64 0, .int .i64 0, .int .i64 5, .int .i64 0] 24) := (((Below.refl w1.heap.size w1).alloc (Nat.le_refl _) _).block _ (by have := hb1.size; rw [H0.out.2.2] at this; omega)).trans hk
  have c0 : (w1.alloc twoSBox).cell? ⟨w.heap.size, 0, none⟩ = some (.int .i64 0) := by unfold World.cell?; rw [hk2]; rfl
  have c1 : (w1.alloc twoSBox).cell? ⟨w.heap.size, 1, none⟩ = some (.int .i64 0) := by unfold World.cell?; rw [hk2]; rfl
  have c2 : (w1.alloc twoSBox).cell? ⟨w.heap.size, 2, none⟩ = some (.int .i64 5) := by unfold World.cell?; rw [hk2]; rfl
  have c3 : (w1.alloc twoSBox).cell? ⟨w.heap.size, 3, none⟩ = some (.int .i64 0) := by unfold World.cell?; rw [hk2]; rfl
  have HB2 := Lib.hid hb2
  have HS2 : Hid (w.heap.size ≤ (w1.alloc twoSBox).heap.size) := Lib.hid hb2.size
  clear hb1 hk hb2 hk2 HV
  go_wp2_with fail
  refine (HT.out w1).mono ?_
  rintro e w2 ⟨rfl, hb3⟩
  have HF := Lib.hid (HB2.out.trans (hb3.mono HS2.out))
  clear hb3 HT HB2 HS2
  go_wp2_with fail
  go_ret
  exact ⟨rfl, HF.out⟩
end Go.Proofs.Ytoienjlpncphgaa
