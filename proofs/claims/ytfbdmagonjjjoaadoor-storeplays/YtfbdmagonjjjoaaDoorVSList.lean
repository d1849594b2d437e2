/- Contracts of the program's own list and List, of a store. -/
import Derived.Test.YtfbdmagonjjjoaaDoorVSAll
import Derived.Test.YtfbdmagonjjjoaaDoorRSList
import Derived.Test.YtfbdmagonjjjoaaDoorIterLaid
namespace Go.Proofs.YtfbdmagonjjjoaaDoor
open Go.RowKit Go.Maps Go.Sort Go.Shelf Go.Proofs

theorem names_sorted {fs : List FileP} (hr : Rising (filesP fs)) {ss : List (List UInt8)} (hp : ss.Perm (strKeys (mapD fs))) : (ss.mergeSort (fun x y => decide (x ≤ y))).map encStr = fs.map (fun x => Value.string x.f.name) := by
  have e1 : ss.mergeSort (fun x y => decide (x ≤ y)) = (strKeys (mapD fs)).mergeSort (fun x y => decide (x ≤ y)) := mergeSort_of_perm hp
  have e2 : strKeys (mapD fs) = fs.map (fun x => x.f.name.data.toList) := by
    show (fs.map entryP).map (fun p => strOf p.1) = _
    rw [List.map_map]
    rfl
  rw [e1, e2, List.mergeSort_of_pairwise]
  · rw [List.map_map]
    rfl
  · refine List.pairwise_map.2 ?_
    have := List.pairwise_map.1 (show (fs.map FileP.f).Pairwise _ from hr)
    refine this.imp fun {a b} h => ?_
    rw [ltS_lt] at h
    exact decide_eq_true (List.le_of_lt (of_decide_eq_true h))
section
variable {base : Nat} {S : Nat → Prop} {w : World} {p : Nat} {room u : Int} {fs : List FileP} {bad : List Int}
/-- What list answers. -/
def TellsI (ns : List ByteArray) (w : World) (e : Ending) (w' : World) : Prop := ∃ v, e = .returned (.iface 60 v) ∧ OwnT w' w.heap.size v ns ∧ Below w.heap.size w w'
set_option maxHeartbeats 1600000 in
theorem vlistm_any (hV : VStoreU base S w p room u fs bad) (hfl : fs.length < 1000000000) :
    Calls Tryd.prog 38 #[.pointer (some ⟨p, 0, none⟩)] w (TellsI (fs.map fun x => x.f.name) w) := by
  obtain ⟨mo, fv, _, _, c2, _, hm, _⟩ := hV.cells
  have hr := hV.row.rising
  clear hV
  refine (callsIn_wide (n := 6)).1 ?_
  have hfK : Fence.wide.fn 46 := trivial
  have hfS : Fence.wide.fn 45 := trivial
  rcases hm with ⟨rfl, rfl⟩ | ⟨mb, rfl, _, h3⟩
  · have hs := sorted_nil w
    refine callsIn_of_wp Tryd.func38 rfl trivial ?_ rfl
    simp only [Tryd.ntmps38, List.size_toArray, List.length_cons, List.length_nil, Nat.reduceAdd, Nat.reduceSub, Array.replicate_succ, Array.replicate_zero, List.push_toArray, List.append_toArray, List.nil_append, List.cons_append]
    gi_wp2_with (first
      | (gi_at_call 46; refine (keys_call _ _).mono ?_; rintro e w' ⟨rfl, rfl⟩)
      | (gi_at_call 45; refine hs.mono ?_; rintro e w' ⟨v, ss, rfl, rfl, hrow, hnil, hb⟩))
    go_ret
    have e1 := (names_sorted (fs := []) hr (ss := []) (List.Perm.refl _))
    rw [e1] at hrow
    exact ⟨v, rfl, ownsRow_base_a hrow (by simp), ((Below.refl _ w).alloc (Nat.le_refl _) _).trans (hb.mono (by simp))⟩
  · have hs := sorted_call mb fs.length (mapD fs) slElem w h3 (by rw [mapD_size]; unfold maxLen; omega) (by rw [mapD_size]; omega)
    refine callsIn_of_wp Tryd.func38 rfl trivial ?_ rfl
    simp only [Tryd.ntmps38, List.size_toArray, List.length_cons, List.length_nil, Nat.reduceAdd, Nat.reduceSub, Array.replicate_succ, Array.replicate_zero, List.push_toArray, List.append_toArray, List.nil_append, List.cons_append]
    gi_wp2_with (first
      | (gi_at_call 46; refine (keys_call _ _).mono ?_; rintro e w' ⟨rfl, rfl⟩)
      | (gi_at_call 45; refine hs.mono ?_; rintro e w' ⟨v, ss, rfl, hS, hrow, hnil, hb⟩))
    go_ret
    have e1 := names_sorted hr hS
    have e2 : ss.length = fs.length := by
      rw [hS.length_eq]
      show ((fs.map entryP).map fun p => strOf p.1).length = _
      simp
    rw [e1, e2] at hrow
    have e3 : ((fs.map fun x => x.f.name).map Value.string) = fs.map fun x => Value.string x.f.name := by rw [List.map_map]; rfl
    refine ⟨v, rfl, ?_, ((Below.refl _ w).alloc (Nat.le_refl _) _).trans (hb.mono (by simp))⟩
    unfold OwnT
    rw [e3, List.length_map]
    exact ownsRow_base_a hrow (by simp)
/-- What List answers. -/
def TellsL (base : Nat) (S : Nat → Prop) (p : Nat) (room u : Int) (fs : List FileP) (bad : List Int) (r : List ByteArray × Int) (w : World) (e : Ending) (w' : World) : Prop :=
  ∃ v w1, e = .returned (.tuple #[v, .int .i64 r.2]) ∧ Left base S w w1 p room u fs bad ∧ OwnT w' w1.heap.size v r.1 ∧ Below w1.heap.size w1 w'
theorem namesM_P (fs : List FileP) : (fs.map fun x => x.f.name) = namesM (filesP fs) := by unfold namesM filesP; rw [List.map_map]; rfl
set_option maxHeartbeats 1600000 in
set_option maxRecDepth 4000 in
theorem vList_any (hV : VStoreU base S w p room u fs bad) (hfl : fs.length < 1000000000) :
    Calls Tryd.prog 22 #[.pointer (some ⟨p, 0, none⟩)] w (TellsL base S p room u fs bad.tail (faultyL (bad.headD 0) (filesP fs)) w) := by
  have hcf : ∀ W : World, (callFunc 38 (#[.pointer (some ⟨p, 0, none⟩)] ++ #[])).run Tryd.prog W = .ok (.enter 38 (#[.pointer (some ⟨p, 0, none⟩)] ++ #[])) W := fun W => by kernel_rfl
  have hw : ∀ w1, Left base S w w1 p room u fs bad.tail → Calls Tryd.prog 38 (#[.pointer (some ⟨p, 0, none⟩)] ++ #[]) w1 (TellsI (fs.map fun x => x.f.name) w1) := fun w1 hL => vlistm_any hL.store hfl
  rw [namesM_P] at hw
  have a1 := as_err
  have a2 := err_names
  have a3 := as_names
  by_cases h0 : bad.headD 0 = 0
  · have HC := Lib.hid (vcall_0 hV 38 #[.pointer (some ⟨p, 0, none⟩)] #[] (fun w1 e w' => TellsI (namesM (filesP fs)) w1 e w') (fun w1 e w' h => by obtain ⟨v, h, _⟩ := h; exact ⟨_, h⟩) h0 hcf hw)
    rw [h0, faultyL_0]
    clear hV hfl hcf hw h0
    go_enter Tryd.func22, Tryd.ntmps22
    go_wp2_with fail
    refine HC.out.mono ?_
    rintro e w2 ⟨w1, hL, v, rfl, ho, hb⟩
    go_wp2
    go_ret2
    exact ⟨v, w1, rfl, hL, ho, hb⟩
  · rw [faultyL_no h0]
    have hC : Calls Tryd.prog 16 #[.pointer (some ⟨p, 0, none⟩), .func (.func 38) #[.pointer (some ⟨p, 0, none⟩)] #[]] w fun e w' => e = .returned (.iface 29 (.int .i64 9)) ∧ Left base S w w' p room u fs bad.tail := by
      by_cases h2 : bad.headD 0 = 2
      · refine (vcall_2 hV 38 #[.pointer (some ⟨p, 0, none⟩)] #[] (fun w1 v w' => v = .int .i64 9 ∧ Below w1.heap.size w1 w') h2 hcf fun w1 hL => (hw w1 hL).mono ?_).mono ?_
        · rintro e w' ⟨v, rfl, ho, hb⟩
          exact ⟨_, false, 0, rfl, fun w => names_err _ w, fun _ => rfl, rfl, hb⟩
        · rintro e w' ⟨w1, v, rfl, hL, rfl, hb⟩
          exact ⟨rfl, hL.more hV.within hb⟩
      · exact vcall_no hV _ h0 h2
    have HC := Lib.hid hC
    clear hV hfl hcf hw h0 hC
    go_enter Tryd.func22, Tryd.ntmps22
    go_wp2_with fail
    refine HC.out.mono ?_
    rintro e w1 ⟨rfl, hL⟩
    go_wp2
    go_ret2
    exact ⟨_, w1, rfl, hL, OwnT.nil, Below.refl _ _⟩
end
end Go.Proofs.YtfbdmagonjjjoaaDoor
