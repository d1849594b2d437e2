/- How much is used behind an append; the names of DiskRoom. -/
import Derived.Test.YtkohjkjjkkkpoaaDoorDAlive
import Derived.Test.YtkohjkjjkkkpoaaDoorPiecesCame
namespace Go.Proofs.YtkohjkjjkkkpoaaDoor
open Go.RowKit Go.Maps

def bare (l : List FileM) : List FileP := l.map fun f => ⟨f, 0, .bool false⟩
theorem filesP_bare (l : List FileM) : filesP (bare l) = l := by
  unfold filesP bare
  rw [List.map_map]
  exact List.map_id l
theorem used_append {l : List FileM} (hr : Rising l) {room : Int} {n : ByteArray} {ys : List Int} (hv : validS n = true) (hfit : ¬ room - (usedM l : Int) < (ys.length : Int)) : usedM (appendM room l n ys).1 = usedM l + ys.length ∧ (appendM room l n ys).2 = 0 ∧ (appendM room l n ys).1.length ≤ l.length + 1 := by
  have e := filesP_bare l
  unfold appendM
  rw [if_neg (by rw [hv]; simp), if_neg hfit]
  refine ⟨?_, rfl, layF_length l _⟩
  dsimp only
  cases hh : hasF l n with
  | true =>
    have hh' := hh
    rw [← e] at hh'
    obtain ⟨x, hx, hxn, hat⟩ := has_file hh'
    rw [e] at hat
    have e1 : ofName l n = x.f := by unfold ofName; rw [if_pos hh, hat]; rfl
    rw [e1]
    have h2 := used_over (fs := bare l) (by rw [e]; exact hr) (x := x) (y := ⟨⟨x.f.name, x.f.b ++ ys, x.f.loose + ys.length⟩, 0, .bool false⟩) hx rfl
    rw [filesP_layP, e] at h2
    dsimp only at h2
    rw [List.length_append] at h2
    omega
  | false =>
    have hh' := hh
    rw [← e] at hh'
    have e1 : ofName l n = ⟨n, [], 0⟩ := by unfold ofName; rw [if_neg (by rw [hh]; simp)]
    rw [e1]
    have h2 := used_new (fs := bare l) (y := ⟨⟨n, [] ++ ys, 0 + ys.length⟩, 0, .bool false⟩) (not_file (by rw [e]; exact hr) hh')
    rw [filesP_layP, e] at h2
    dsimp only at h2 ⊢
    rw [h2]
    simp
theorem full_append {l : List FileM} {room : Int} {n : ByteArray} {ys : List Int} (hv : validS n = true) (hfit : room - (usedM l : Int) < (ys.length : Int)) : appendM room l n ys = (l, 7) := by
  unfold appendM
  rw [if_neg (by rw [hv]; simp), if_pos hfit]
theorem DW.rising {w0 w : World} {p : Nat} {room : Int} {l : List FileM} (h : DW w0 w p room l) : Rising l := by
  obtain ⟨S, fs, rfl, hV, _⟩ := h
  exact hV.row.rising
theorem abc_valid (i : Nat) : validS ((⟨#[97, 98, 99]⟩ : ByteArray).extract (i % 3) (i % 3 + 1)) = true ∧ ((⟨#[97, 98, 99]⟩ : ByteArray).extract (i % 3) (i % 3 + 1)).size = 1 := by
  have h : i % 3 = 0 ∨ i % 3 = 1 ∨ i % 3 = 2 := by omega
  rcases h with h | h | h <;> rw [h] <;> decide +kernel
end Go.Proofs.YtkohjkjjkkkpoaaDoor
