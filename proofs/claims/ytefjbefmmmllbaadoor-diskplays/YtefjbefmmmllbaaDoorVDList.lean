/- A contract of the program's own List. -/
import Derived.Test.YtefjbefmmmllbaaDoorVDLeft
import Derived.Test.YtefjbefmmmllbaaDoorIterLaid
namespace Go.Proofs.YtefjbefmmmllbaaDoor
open Go.RowKit Go.Maps Go.Sort Go.Shelf Go.Proofs

theorem names_sorted {fs : List FileP} (hr : Rising (filesP fs)) {ss : List (List UInt8)} (hp : ss.Perm (strKeys (mapD fs))) : (ss.mergeSort (fun x y => decide (x ≤ y))).map encStr = fs.map (fun x => Value.string x.f.name) := by
  have e1 : ss.mergeSort (fun x y => decide (x ≤ y)) = (strKeys (mapD fs)).mergeSort (fun x y => decide (x ≤ y)) := mergeSort_of_perm hp
  have e2 : strKeys (mapD fs) = fs.map (fun x => x.f.name.data.toList) := by
    show (fs.map entryP).map (fun p => strOf p.1) = _
    rw [List.map_map]
    rfl
  rw [e1, e2, List.mergeSort_of_pairwise]
  · rw [List.map_map]
    rfl
  · refine List.pairwise_map.2 ?_
    have := List.pairwise_map.1 (show (fs.map FileP.f).Pairwise _ from hr)
    refine this.imp fun {a b} h => ?_
    rw [ltS_lt] at h
    exact decide_eq_true (List.le_of_lt (of_decide_eq_true h))
section
variable {base : Nat} {S : Nat → Prop} {w : World} {p : Nat} {room u : Int} {fs : List FileP}
/-- What List answers. -/
def TellsL (ns : List ByteArray) (w : World) (e : Ending) (w' : World) : Prop := ∃ v, e = .returned v ∧ w'.ownsRow w.heap.size 9 1 v ns.length (ns.map Value.string) ∧ Below w.heap.size w w'
set_option maxHeartbeats 1600000 in
theorem vlist_any (hV : VDiskU base S w p room u fs) (hfl : fs.length < 1000000000) :
    Calls Tryd.prog 32 #[.pointer (some ⟨p, 0, none⟩)] w (TellsL (fs.map fun x => x.f.name) w) := by
  obtain ⟨mo, _, _, c2, hm⟩ := hV.cells
  have hr := hV.row.rising
  clear hV
  refine (callsIn_wide (n := 6)).1 ?_
  have hfK : Fence.wide.fn 45 := trivial
  have hfS : Fence.wide.fn 44 := trivial
  rcases hm with ⟨rfl, rfl⟩ | ⟨mb, rfl, _, h3⟩
  · have hs := sorted_nil w
    refine callsIn_of_wp Tryd.func32 rfl trivial ?_ rfl
    simp only [Tryd.ntmps32, List.size_toArray, List.length_cons, List.length_nil, Nat.reduceAdd, Nat.reduceSub, Array.replicate_succ, Array.replicate_zero, List.push_toArray, List.append_toArray, List.nil_append, List.cons_append]
    gi_wp2_with (first
      | (gi_at_call 45; refine (keys_call _ _).mono ?_; rintro e w' ⟨rfl, rfl⟩)
      | (gi_at_call 44; refine hs.mono ?_; rintro e w' ⟨v, ss, rfl, rfl, hrow, hnil, hb⟩))
    go_ret
    have e1 := (names_sorted (fs := []) hr (ss := []) (List.Perm.refl _))
    rw [e1] at hrow
    exact ⟨v, rfl, ownsRow_base_a hrow (by simp), ((Below.refl _ w).alloc (Nat.le_refl _) _).trans (hb.mono (by simp))⟩
  · have hs := sorted_call mb fs.length (mapD fs) ptrElem w h3 (by rw [mapD_size]; unfold maxLen; omega) (by rw [mapD_size]; omega)
    refine callsIn_of_wp Tryd.func32 rfl trivial ?_ rfl
    simp only [Tryd.ntmps32, List.size_toArray, List.length_cons, List.length_nil, Nat.reduceAdd, Nat.reduceSub, Array.replicate_succ, Array.replicate_zero, List.push_toArray, List.append_toArray, List.nil_append, List.cons_append]
    gi_wp2_with (first
      | (gi_at_call 45; refine (keys_call _ _).mono ?_; rintro e w' ⟨rfl, rfl⟩)
      | (gi_at_call 44; refine hs.mono ?_; rintro e w' ⟨v, ss, rfl, hS, hrow, hnil, hb⟩))
    go_ret
    have e1 := names_sorted hr hS
    have e2 : ss.length = fs.length := by
      rw [hS.length_eq]
      show ((fs.map entryP).map fun p => strOf p.1).length = _
      simp
    rw [e1, e2] at hrow
    have e3 : ((fs.map fun x => x.f.name).map Value.string) = fs.map fun x => Value.string x.f.name := by rw [List.map_map]; rfl
    refine ⟨v, rfl, ?_, ((Below.refl _ w).alloc (Nat.le_refl _) _).trans (hb.mono (by simp))⟩
    rw [e3, List.length_map]
    exact ownsRow_base_a hrow (by simp)
end
end Go.Proofs.YtefjbefmmmllbaaDoor
