/- A disk of the program's, one of the document's and another one of the program's, side by side, over a row of calls; bytes and whole blocks that lie beside them. -/
import Derived.Test.YtefjbefmmmllbaaDoorRDCrashed
import Derived.Test.YtefjbefmmmllbaaDoorRDAppend
import Derived.Test.YtefjbefmmmllbaaDoorDAlive
import Derived.Test.YtefjbefmmmllbaaDoorDiskMap
import Derived.Test.YtefjbefmmmllbaaDoorSameStr
namespace Go.Proofs.YtefjbefmmmllbaaDoor
open Go.RowKit Go.Maps

/-! How many files a call makes of a disk's, and how many bytes: plain mathematics. -/
theorem usedM_app (a b : List FileM) : usedM (a ++ b) = usedM a + usedM b := by unfold usedM; rw [List.map_append, List.sum_append]
theorem usedM_one (f : FileM) (l : List FileM) : usedM (f :: l) = f.b.length + usedM l := by simp [usedM]
theorem used_at (l : List FileM) (k : Nat) (h : k < l.length) : usedM l = usedM (l.take k) + l[k].b.length + usedM (l.drop (k + 1)) := by
  conv => lhs; rw [← List.take_append_drop k l, List.drop_eq_getElem_cons h, usedM_app, usedM_one]
  omega
theorem ofName_at {l : List FileM} {n : ByteArray} (h : hasF l n = true) : ofName l n = l[findK l n]'(hasF_lt h) := by
  unfold ofName
  rw [if_pos h, List.getElem?_eq_getElem (hasF_lt h)]
  rfl
theorem ofName_none' {l : List FileM} {n : ByteArray} (h : hasF l n = false) : ofName l n = ⟨n, [], 0⟩ := by unfold ofName; rw [if_neg (by rw [h]; simp)]
theorem ofName_name (l : List FileM) (n : ByteArray) : (ofName l n).name = n := by
  cases h : hasF l n with
  | true => rw [ofName_at h]; exact hasF_name h
  | false => rw [ofName_none' h]
theorem used_lay0 (l : List FileM) (f : FileM) : usedM (layF l f) + (ofName l f.name).b.length = usedM l + f.b.length := by
  unfold layF tailK
  rw [usedM_app, usedM_one]
  cases h : hasF l f.name with
  | true =>
    rw [ofName_at h, if_pos rfl]
    have := used_at l _ (hasF_lt h)
    omega
  | false =>
    rw [ofName_none' h, if_neg (by simp)]
    have := usedM_app (l.take (findK l f.name)) (l.drop (findK l f.name))
    rw [List.take_append_drop] at this
    simp only [List.length_nil]
    omega
theorem getM_ok {l : List FileM} {n : ByteArray} (h : (getM l n).2 = 0) : validS n = true ∧ ∃ hh : hasF l n = true, (getM l n).1 = l[findK l n]'(hasF_lt hh) ∧ (getM l n).1 = ofName l n := by
  by_cases hv : validS n = true
  · by_cases hh : hasF l n = true
    · have e : getM l n = (l[findK l n]'(hasF_lt hh), 0) := by
        unfold getM
        rw [if_neg (by rw [hv]; simp), if_pos hh, List.getElem?_eq_getElem (hasF_lt hh)]
        rfl
      exact ⟨hv, hh, by rw [e], by rw [e, ofName_at hh]⟩
    · rw [getM_none hv (by simpa using hh)] at h; cases h
  · rw [getM_bad (by simpa using hv)] at h; cases h
/-- At most one file more, and m bytes. -/
def Few (l l' : List FileM) (m : Nat) : Prop := l'.length ≤ l.length + 1 ∧ usedM l' ≤ usedM l + m
theorem Few.same (l : List FileM) (m : Nat) : Few l l m := ⟨Nat.le_succ _, Nat.le_add_right _ _⟩
theorem append_few (room : Int) (l : List FileM) (n : ByteArray) (b : List Int) : Few l (appendM room l n b).1 b.length := by
  unfold appendM
  split
  · exact Few.same _ _
  · split
    · exact Few.same _ _
    · refine ⟨layF_length _ _, ?_⟩
      have h := used_lay0 l ⟨(ofName l n).name, (ofName l n).b ++ b, (ofName l n).loose + b.length⟩
      dsimp only at h ⊢
      rw [ofName_name, List.length_append] at h
      rw [ofName_name]
      omega
theorem sync_few (l : List FileM) (n : ByteArray) : Few l (syncM l n).1 0 := by
  unfold syncM
  split
  · exact Few.same _ _
  · rename_i h
    obtain ⟨_, _, _, e⟩ := getM_ok (Decidable.not_not.1 h)
    rw [e]
    refine ⟨layF_length _ _, ?_⟩
    have h := used_lay0 l ⟨(ofName l n).name, (ofName l n).b, 0⟩
    dsimp only at h ⊢
    rw [ofName_name] at h ⊢
    omega
theorem cut_few (l : List FileM) (n : ByteArray) (k : Int) : Few l (cutM l n k).1 0 := by
  unfold cutM
  split
  · exact Few.same _ _
  · rename_i h
    obtain ⟨_, _, _, e⟩ := getM_ok (Decidable.not_not.1 h)
    rw [e]
    refine ⟨layF_length _ _, ?_⟩
    have h := used_lay0 l ⟨(ofName l n).name, (ofName l n).b.take k.toNat, 0⟩
    dsimp only at h ⊢
    rw [ofName_name, List.length_take] at h
    rw [ofName_name]
    omega
theorem remove_used {l : List FileM} {n : ByteArray} (h : (getM l n).2 = 0) : usedM (removeM l n).1 + (getM l n).1.b.length = usedM l ∧ (removeM l n).1.length ≤ l.length := by
  obtain ⟨_, hh, e, _⟩ := getM_ok h
  unfold removeM
  rw [if_neg (by rw [h]; simp), e]
  refine ⟨?_, ?_⟩
  · rw [usedM_app]
    have := used_at l _ (hasF_lt hh)
    omega
  · simp only [List.length_append, List.length_take, List.length_drop]
    omega
theorem remove_few (l : List FileM) (n : ByteArray) : Few l (removeM l n).1 0 := by
  by_cases h : (getM l n).2 = 0
  · have := remove_used h
    exact ⟨by omega, by omega⟩
  · unfold removeM
    rw [if_pos h]
    exact Few.same _ _
theorem rename_few (l : List FileM) (a b : ByteArray) : Few l (renameM l a b).1 0 := by
  unfold renameM
  split
  · exact Few.same _ _
  · split
    · exact Few.same _ _
    · split
      · exact Few.same _ _
      · rename_i h _
        obtain ⟨h1, h2⟩ := remove_used (Decidable.not_not.1 h)
        have h3 := layF_length (removeM l a).1 ⟨b, (getM l a).1.b, (getM l a).1.loose⟩
        have h4 := used_lay0 (removeM l a).1 ⟨b, (getM l a).1.b, (getM l a).1.loose⟩
        dsimp only at h4
        exact ⟨by dsimp only; omega, by dsimp only; omega⟩
theorem crash_used (l : List FileM) (keep : List Int) : usedM (crashM l keep) ≤ usedM l := by
  induction l generalizing keep with
  | nil => exact Nat.le_refl _
  | cons f l ih =>
    unfold crashM
    split
    · rw [usedM_one, usedM_one]
      have := ih keep
      omega
    · rw [usedM_one, usedM_one]
      have := ih keep.tail
      have h : (crashF f (keep.headD 0)).b.length ≤ f.b.length := by unfold crashF; rw [List.length_take]; omega
      omega
theorem crash_few (l : List FileM) (keep : List Int) : Few l (crashM l keep) 0 := ⟨by rw [crashM_length]; omega, crash_used l keep⟩

/-! The disks. -/

theorem usedO_ge {fs : List FileV} {x : FileV} (hx : x ∈ fs) : x.1.b.length ≤ usedM (filesOf fs) := by
  induction fs with
  | nil => cases hx
  | cons a t ih =>
    show _ ≤ usedM (a.1 :: filesOf t)
    rw [usedM_cons]
    rcases List.mem_cons.1 hx with ex | hx2
    · rw [ex]; omega
    · have := ih hx2; omega
theorem usedL_ge {l : List FileM} {x : FileM} (hx : x ∈ l) : x.b.length ≤ usedM l := by
  induction l with
  | nil => cases hx
  | cons a t ih =>
    rw [usedM_cons]
    rcases List.mem_cons.1 hx with ex | hx2
    · rw [ex]; omega
    · have := ih hx2; omega
theorem got_ge (l : List FileM) (n : ByteArray) : (getM l n).1.b.length ≤ usedM l := by
  by_cases h : (getM l n).2 = 0
  · obtain ⟨_, hh, e, _⟩ := getM_ok h
    rw [e]
    exact usedL_ge (List.getElem_mem _)
  · unfold getM at h ⊢
    split
    · exact Nat.zero_le _
    · rename_i h1
      rw [if_neg h1] at h
      split
      · rename_i h2
        rw [if_pos h2] at h
        exact absurd rfl h
      · exact Nat.zero_le _
theorem LiesOff.none {S : Nat → Prop} {w : World} {A : Option Addr} : LiesOff S w A [] := fun h => absurd rfl h
/-- How great files may be. -/
structure Fits (l : List FileM) : Prop where
  many : l.length ≤ 1000
  used : usedM l ≤ 1000000
/-- Bytes and whole blocks that lie in no block of S. -/
def Aside (S : Nat → Prop) (w : World) (A : Option Addr) (xs : List Int) (X : Nat → Option Obj) : Prop := LiesOff S w A xs ∧ ∀ g ob, X g = some ob → ¬ S g ∧ w.heap[g]? = some ob
theorem some_lt {w : World} {g : Nat} {ob : Obj} (h : w.heap[g]? = some ob) : g < w.heap.size := (Array.getElem?_eq_some_iff.1 h).1
theorem Aside.keep {S : Nat → Prop} {w w' : World} {A : Option Addr} {xs : List Int} {X : Nat → Option Obj} (h : Aside S w A xs X) (hk : Keep S w w') : Aside (Grow S w w') w' A xs X :=
  ⟨h.1.keep hk, fun g ob hg => ⟨fun hs => by
    rcases hs with hs | hs
    · exact (h.2 g ob hg).1 hs
    · have := some_lt (h.2 g ob hg).2; omega, by rw [hk.block g (some_lt (h.2 g ob hg).2) (h.2 g ob hg).1]; exact (h.2 g ob hg).2⟩⟩
theorem Aside.mono {S S' : Nat → Prop} {w : World} {A : Option Addr} {xs : List Int} {X : Nat → Option Obj} (h : Aside S w A xs X) (hs : ∀ i, i < w.heap.size → S' i → S i) : Aside S' w A xs X :=
  ⟨h.1.mono hs, fun g ob hg => ⟨fun h2 => (h.2 g ob hg).1 (hs g (some_lt (h.2 g ob hg).2) h2), (h.2 g ob hg).2⟩⟩
theorem Aside.below {S : Nat → Prop} {w w' : World} {A : Option Addr} {xs : List Int} {X : Nat → Option Obj} (h : Aside S w A xs X) (hb : Below w.heap.size w w') : Aside S w' A xs X :=
  ⟨h.1.below hb, fun g ob hg => ⟨(h.2 g ob hg).1, by rw [hb.block g (some_lt (h.2 g ob hg).2)]; exact (h.2 g ob hg).2⟩⟩
/-- The three disks, made since w0, have nothing in common; bytes lie beside them. -/
def Duo (w0 w : World) (p q o : Nat) (room : Int) (l : List FileM) (l2 : List FileM) (lo : List FileM) (A : Option Addr) (xs : List Int) (X : Nat → Option Obj) : Prop :=
  ∃ S T O fs gs os, filesP fs = l ∧ filesOf gs = l2 ∧ filesP os = lo ∧ VDisk w0.heap.size S w p room fs ∧ RDisk w0.heap.size T w q room gs ∧ VDisk w0.heap.size O w o 99 os ∧
    ((∀ i, S i → ¬ T i) ∧ (∀ i, S i → ¬ O i) ∧ (∀ i, T i → ¬ O i)) ∧ (Below w0.heap.size w0 w ∧ Tabs w ∧ 2 ≤ w0.heap.size ∧ 0 ≤ room ∧ room ≤ 9223372036854775807) ∧ Aside (fun i => S i ∨ T i ∨ O i) w A xs X
section
variable {w0 w w' : World} {p q o : Nat} {room : Int} {l l2 lo : List FileM} {A : Option Addr} {xs : List Int} {X : Nat → Option Obj}
theorem Duo.since (h : Duo w0 w p q o room l l2 lo A xs X) : Below w0.heap.size w0 w := by obtain ⟨_, _, _, _, _, _, _, _, _, _, _, _, _, ⟨h3, _⟩, _⟩ := h; exact h3
theorem Duo.lies (h : Duo w0 w p q o room l l2 lo A xs X) : Lies .u8 w w.heap.size A xs := by
  obtain ⟨_, _, _, _, _, _, _, _, _, _, _, _, _, _, h⟩ := h
  exact h.1.lies
theorem Duo.held (h : Duo w0 w p q o room l l2 lo A xs X) {g : Nat} {ob : Obj} (hg : X g = some ob) : w.heap[g]? = some ob := by
  obtain ⟨_, _, _, _, _, _, _, _, _, _, _, _, _, _, h⟩ := h
  exact (h.2 g ob hg).2
theorem Duo.below (h : Duo w0 w p q o room l l2 lo A xs X) (hb : Below w.heap.size w w') : Duo w0 w' p q o room l l2 lo A xs X := by
  obtain ⟨S, T, O, fs, gs, os, h1, h2, h3, hV, hR, hO, ha, ⟨k1, k2, k3⟩, hl⟩ := h
  exact ⟨S, T, O, fs, gs, os, h1, h2, h3, hV.below hb, hR.below hb, hO.below hb, ha, ⟨k1.trans (hb.mono k1.size), k2.below hb, k3⟩, hl.below hb⟩
theorem Duo.drewN (h : Duo w0 w p q o room l l2 lo A xs X) (m : Nat) : Duo w0 (w.drewN m) p q o room l l2 lo A xs X := h.below (below_drewN (Below.refl _ _) m)
theorem Duo.bare (h : Duo w0 w p q o room l l2 lo A xs X) : Duo w0 w p q o room l l2 lo none [] X := by
  obtain ⟨S, T, O, fs, gs, os, h1, h2, h3, hV, hR, hO, ha, hk, hl⟩ := h
  exact ⟨S, T, O, fs, gs, os, h1, h2, h3, hV, hR, hO, ha, hk, LiesOff.none, hl.2⟩
/-- New bytes. -/
theorem Duo.fresh (h : Duo w0 w p q o room l l2 lo A xs X) (hb : Below w.heap.size w w') {B : Option Addr} {n c : Nat} {ys : List Int} (ho : Own .u8 5 w' w.heap.size (.slice B n c) ys) : Duo w0 w' p q o room l l2 lo B ys X := by
  obtain ⟨S, T, O, fs, gs, os, h1, h2, h3, hV, hR, hO, ha, ⟨k1, k2, k3⟩, hl⟩ := h
  refine ⟨S, T, O, fs, gs, os, h1, h2, h3, hV.below hb, hR.below hb, hO.below hb, ha, ⟨k1.trans (hb.mono k1.size), k2.below hb, k3⟩, fun hn => ?_, (hl.below hb).2⟩
  obtain ⟨g, c', hv, hg1, hg2, _⟩ := ho.spot (List.length_pos_iff.2 hn)
  obtain ⟨b, off, hA, hbl, hcell⟩ := ho.lies hn
  injection hv with hv1
  rw [hv1] at hA
  injection hA with hA
  injection hA with e1 e2 _
  subst e1 e2
  refine ⟨g, 0, hv1, hg2, fun hs => ?_, hcell⟩
  rcases hs with hs | hs | hs
  · have := (hV.within.2 g hs).2; omega
  · have := (hR.1.2 g hs).2; omega
  · have := (hO.within.2 g hs).2; omega
/-- A box of the call's own. -/
theorem Duo.box (h : Duo w0 w p q o room l l2 lo none [] (fun _ => none)) (ob : Obj) : Duo w0 (w.alloc ob) p q o room l l2 lo none [] (fun g => if g = w.heap.size then some ob else none) := by
  have hb : Below w.heap.size w (w.alloc ob) := (Below.refl _ _).alloc (Nat.le_refl _) _
  obtain ⟨S, T, O, fs, gs, os, h1, h2, h3, hV, hR, hO, ha, ⟨k1, k2, k3⟩, hl⟩ := h
  refine ⟨S, T, O, fs, gs, os, h1, h2, h3, hV.below hb, hR.below hb, hO.below hb, ha, ⟨k1.trans (hb.mono k1.size), k2.below hb, k3⟩, LiesOff.none, fun g ob' hg => ?_⟩
  dsimp only at hg
  split at hg
  · rename_i hge
    injection hg with hg
    subst hge hg
    refine ⟨fun hs => ?_, ?_⟩
    · rcases hs with hs | hs | hs
      · have := (hV.within.2 _ hs).2; omega
      · have := (hR.1.2 _ hs).2; omega
      · have := (hO.within.2 _ hs).2; omega
    · show (w.heap.push ob)[w.heap.size]? = _
      simp
  · cases hg
theorem Duo.unbox (h : Duo w0 w p q o room l l2 lo A xs X) : Duo w0 w p q o room l l2 lo none [] (fun _ => none) := by
  obtain ⟨S, T, O, fs, gs, os, h1, h2, h3, hV, hR, hO, ha, hk, hl⟩ := h
  exact ⟨S, T, O, fs, gs, os, h1, h2, h3, hV, hR, hO, ha, hk, LiesOff.none, fun _ _ h => by cases h⟩
theorem grow_off {S T : Nat → Prop} (hT : ∀ i, T i → i < w.heap.size) (h : ∀ i, S i → ¬ T i) : ∀ i, Grow S w w' i → ¬ T i := fun i hi ht => by
  rcases hi with hi | hi
  · exact h i hi ht
  · have := hT i ht; omega
/-- A call on the program's own. -/
theorem Duo.left {S T O : Nat → Prop} {fs fs' : List FileP} {gs : List FileV} {os : List FileP} {l' : List FileM} (h2 : filesOf gs = l2) (h3 : filesP os = lo) (hV : VDisk w0.heap.size S w p room fs) (hR : RDisk w0.heap.size T w q room gs) (hO : VDisk w0.heap.size O w o 99 os)
    (ha : (∀ i, S i → ¬ T i) ∧ (∀ i, S i → ¬ O i) ∧ (∀ i, T i → ¬ O i)) (hk : Below w0.heap.size w0 w ∧ Tabs w ∧ 2 ≤ w0.heap.size ∧ 0 ≤ room ∧ room ≤ 9223372036854775807) (hl : Aside (fun i => S i ∨ T i ∨ O i) w A xs X)
    (he : filesP fs' = l') (hL : Left w0.heap.size S w w' p room ((usedM (filesP fs') : Nat) : Int) fs') : Duo w0 w' p q o room l' l2 lo A xs X := by
  have hb := hL.below_base hV.within
  obtain ⟨k1, k2, k3, k4⟩ := hk
  refine ⟨_, T, O, fs', gs, os, he, h2, h3, hL.disk, hR.keep hL.keep fun i hi hs => ha.1 i hs hi, hO.keep hL.keep fun i hi hs => ha.2.1 i hs hi, ⟨grow_off (fun i hi => (hR.1.2 i hi).2) ha.1, grow_off (fun i hi => (hO.within.2 i hi).2) ha.2.1, ha.2.2⟩, ⟨k1.trans hb, k2.past hb k3, k3, k4⟩, ?_⟩
  refine (hl.keep (hL.keep.mono fun i hi => .inl hi)).mono fun i _ hi => ?_
  rcases hi with (hi | hi) | hi | hi
  · exact .inl (.inl hi)
  · exact .inr hi
  · exact .inl (.inr (.inl hi))
  · exact .inl (.inr (.inr hi))
/-- A call on the document's own. -/
theorem Duo.right {S T O : Nat → Prop} {fs : List FileP} {gs gs' : List FileV} {os : List FileP} {l' : List FileM} (h1 : filesP fs = l) (h3 : filesP os = lo) (hV : VDisk w0.heap.size S w p room fs) (hR : RDisk w0.heap.size T w q room gs) (hO : VDisk w0.heap.size O w o 99 os)
    (ha : (∀ i, S i → ¬ T i) ∧ (∀ i, S i → ¬ O i) ∧ (∀ i, T i → ¬ O i)) (hk : Below w0.heap.size w0 w ∧ Tabs w ∧ 2 ≤ w0.heap.size ∧ 0 ≤ room ∧ room ≤ 9223372036854775807) (hl : Aside (fun i => S i ∨ T i ∨ O i) w A xs X)
    (he : filesOf gs' = l') (hL : RLeft w0.heap.size T w w' q room gs') : Duo w0 w' p q o room l l' lo A xs X := by
  have hb := hL.keep.below hR.1
  obtain ⟨k1, k2, k3, k4⟩ := hk
  refine ⟨S, _, O, fs, gs', os, h1, he, h3, hV.keep hL.keep ha.1, hL.disk, hO.keep hL.keep fun i hi hs => ha.2.2 i hs hi, ⟨fun i hi hg => grow_off (fun i hi => (hV.within.2 i hi).2) (fun i ht hs => ha.1 i hs ht) i hg hi, ha.2.1, grow_off (fun i hi => (hO.within.2 i hi).2) ha.2.2⟩, ⟨k1.trans hb, k2.past hb k3, k3, k4⟩, ?_⟩
  refine (hl.keep (hL.keep.mono fun i hi => .inr (.inl hi))).mono fun i _ hi => ?_
  rcases hi with hi | (hi | hi) | hi
  · exact .inl (.inl hi)
  · exact .inl (.inr (.inl hi))
  · exact .inr hi
  · exact .inl (.inr (.inr hi))
/-- A call on the other one. -/
theorem Duo.other {S T O : Nat → Prop} {fs : List FileP} {gs : List FileV} {os os' : List FileP} {l' : List FileM} (h1 : filesP fs = l) (h2 : filesOf gs = l2) (hV : VDisk w0.heap.size S w p room fs) (hR : RDisk w0.heap.size T w q room gs) (hO : VDisk w0.heap.size O w o 99 os)
    (ha : (∀ i, S i → ¬ T i) ∧ (∀ i, S i → ¬ O i) ∧ (∀ i, T i → ¬ O i)) (hk : Below w0.heap.size w0 w ∧ Tabs w ∧ 2 ≤ w0.heap.size ∧ 0 ≤ room ∧ room ≤ 9223372036854775807) (hl : Aside (fun i => S i ∨ T i ∨ O i) w A xs X)
    (he : filesP os' = l') (hL : Left w0.heap.size O w w' o 99 ((usedM (filesP os') : Nat) : Int) os') : Duo w0 w' p q o room l l2 l' A xs X := by
  have hb := hL.below_base hO.within
  obtain ⟨k1, k2, k3, k4⟩ := hk
  refine ⟨S, T, _, fs, gs, os', h1, h2, he, hV.keep hL.keep ha.2.1, hR.keep hL.keep ha.2.2, hL.disk, ⟨ha.1, fun i hi hg => grow_off (fun i hi => (hV.within.2 i hi).2) (fun i ht hs => ha.2.1 i hs ht) i hg hi, fun i hi hg => grow_off (fun i hi => (hR.1.2 i hi).2) (fun i ht hs => ha.2.2 i hs ht) i hg hi⟩, ⟨k1.trans hb, k2.past hb k3, k3, k4⟩, ?_⟩
  refine (hl.keep (hL.keep.mono fun i hi => .inr (.inr hi))).mono fun i _ hi => ?_
  rcases hi with hi | hi | hi | hi
  · exact .inl (.inl hi)
  · exact .inl (.inr (.inl hi))
  · exact .inl (.inr (.inr hi))
  · exact .inr hi

/-- New bytes, and their whole block. -/
theorem Duo.fresh2 (h : Duo w0 w p q o room l l2 lo A xs X) (hb : Below w.heap.size w w') {B : Option Addr} {n c : Nat} {ys : List Int} (ho : Own .u8 5 w' w.heap.size (.slice B n c) ys) (hn : 0 < ys.length) :
    ∃ g cur, B = some ⟨g, 0, none⟩ ∧ w.heap.size ≤ g ∧ (∀ j (hj : j < ys.length), cur[j]? = some (.int .u8 ys[j])) ∧ Duo w0 w' p q o room l l2 lo B ys (fun i => if i = g then some (.cells cur 5 (0, 0)) else X i) := by
  have hd := h.fresh hb ho
  rcases ho.2 with ⟨_, h0⟩ | ⟨g, cap, cur, hv, hbg, hg, hc, hm, hcs, ht⟩
  · omega
  · injection hv with e1 e2 e3
    refine ⟨g, cur, e1, hbg, fun j hj => ?_, ?_⟩
    · have : (cur.toList.take (ys.length * 1))[j]? = (ys.map (Value.int .u8))[j]? := by rw [ht]
      rw [List.getElem?_take_of_lt (by omega)] at this
      rw [← Array.getElem?_toList, this]
      simp [hj]
    · obtain ⟨S, T, O, fs, gs, os, h1, h2, h3, hV, hR, hO, ha, hk, hl⟩ := hd
      refine ⟨S, T, O, fs, gs, os, h1, h2, h3, hV, hR, hO, ha, hk, hl.1, fun i ob hi => ?_⟩
      dsimp only at hi
      split at hi
      · rename_i hig
        injection hi with hi
        subst hig hi
        refine ⟨?_, hg⟩
        have hlz := hl.1 (by rintro rfl; simp at hn)
        obtain ⟨b, off, hA, _, hs, _⟩ := hlz
        rw [e1] at hA
        injection hA with hA
        injection hA with e4
        rw [← e4] at hs
        exact hs
      · exact hl.2 i ob hi
/-- A store into a block that lies beside the disks. -/
theorem Duo.store (h : Duo w0 w p q o room l l2 lo A xs X) {g : Nat} {cur : Array Value} (hg : X g = some (.cells cur 5 (0, 0))) (j : Nat) (v : Value) (hlow : w0.heap.size ≤ g) :
    Duo w0 (w.setCell ⟨g, j, none⟩ v) p q o room l l2 lo none [] (fun i => if i = g then some (.cells (cur.setIfInBounds j v) 5 (0, 0)) else X i) := by
  obtain ⟨S, T, O, fs, gs, os, h1, h2, h3, hV, hR, hO, ha, ⟨k1, k2, k3⟩, hl⟩ := h
  obtain ⟨hns, hblk⟩ := hl.2 g _ hg
  have hk : Keep (fun i => i = g) w (w.setCell ⟨g, j, none⟩ v) := (Keep.refl (fun i => i = g) w).setCell (p := ⟨g, j, none⟩) (.inl rfl) _
  have hbel : Below w0.heap.size w0 (w.setCell ⟨g, j, none⟩ v) := k1.setCell (p := ⟨g, j, none⟩) hlow v
  refine ⟨S, T, O, fs, gs, os, h1, h2, h3, hV.keep hk fun i hi e => hns (.inl (e ▸ hi)), hR.keep hk fun i hi e => hns (.inr (.inl (e ▸ hi))), hO.keep hk fun i hi e => hns (.inr (.inr (e ▸ hi))), ha, ⟨hbel, ?_, k3⟩, LiesOff.none, fun i ob hi => ?_⟩
  · have hb2 : Below w0.heap.size w (w.setCell ⟨g, j, none⟩ v) := ⟨hk.os, hk.tape, hk.output, hk.size, fun i hi => hk.block i (by have := k1.size; omega) (by show ¬ i = g; omega)⟩
    exact k2.past hb2 k3.1
  · dsimp only at hi
    split at hi
    · rename_i hig
      injection hi with hi
      subst hig hi
      exact ⟨hns, heap_setCell_same w i j cur 5 v hblk⟩
    · rename_i hig
      refine ⟨(hl.2 i ob hi).1, ?_⟩
      rw [heap_setCell_other _ _ _ _ hig]
      exact (hl.2 i ob hi).2
/-! The calls. -/
theorem duo_append (h : Duo w0 w p q o room l l2 lo A xs X) (hf : Fits l) (n : ByteArray) (c : Nat) (hn : n.size ≤ 281474976710656) (hy : IsBytes xs) (hA : A = none → c = 0) (hc : xs.length ≤ c) (hyl : xs.length ≤ 500) :
    Calls Tryd.prog 8 #[.pointer (some ⟨p, 0, none⟩), .string n, .slice A xs.length c] w fun e w' => e = .returned (.int .i64 (appendM room l n xs).2) ∧ Duo w0 w' p q o room (appendM room l n xs).1 l2 lo A xs X := by
  obtain ⟨S, T, O, fs, gs, os, rfl, h2, h3, hV, hR, hO, ha, hk, hl⟩ := h
  have h4 := hf.many
  have h5 := hf.used
  rw [filesP_length] at h4
  refine (vappend_any hV n A xs c hn hk.2.1 hk.2.2.2.1 hk.2.2.2.2 (by omega) (by omega) (hl.1.mono fun i _ hi => .inl hi) hc hA hy (by omega)).mono ?_
  rintro e w' ⟨rfl, fs', he, hL⟩
  exact ⟨rfl, Duo.left h2 h3 hV hR hO ha hk hl he hL⟩
theorem duo_rappend (h : Duo w0 w p q o room l l2 lo A xs X) (hf : Fits l2) (n : ByteArray) (B : Option Addr) (ys : List Int) (c : Nat) (hn : n.size ≤ maxLen) (hy : IsBytes ys) (hl : Lies .u8 w0 w0.heap.size B ys) (hB : B = none → c = 0) (hc : ys.length ≤ c) (hyl : ys.length ≤ 500) :
    Calls Tryd.prog 16 #[.pointer (some ⟨q, 0, none⟩), .string n, .slice B ys.length c] w fun e w' => e = .returned (.int .i64 (appendM room l2 n ys).2) ∧ Duo w0 w' p q o room l (appendM room l2 n ys).1 lo A xs X := by
  obtain ⟨S, T, O, fs, gs, os, h1, rfl, h3, hV, hR, hO, ha, hk, hla⟩ := h
  have h4 := hf.many
  have h5 := hf.used
  rw [filesOf_length] at h4
  refine (rappend_any hR n B ys c hn hk.2.2.2.1 hk.2.2.2.2 (by omega) (by omega) ((hl.below hk.1).more hk.1.size) hc hB hy (by omega)).mono ?_
  rintro e w' ⟨rfl, gs', he, hL⟩
  exact ⟨rfl, Duo.right h1 h3 hV hR hO ha hk hla he hL⟩
theorem duo_sync (h : Duo w0 w p q o room l l2 lo A xs X) (hf : Fits l) (n : ByteArray) (hn : n.size ≤ maxLen) :
    Calls Tryd.prog 17 #[.pointer (some ⟨p, 0, none⟩), .string n] w fun e w' => e = .returned (.int .i64 (syncM l n).2) ∧ Duo w0 w' p q o room (syncM l n).1 l2 lo A xs X := by
  obtain ⟨S, T, O, fs, gs, os, rfl, h2, h3, hV, hR, hO, ha, hk, hl⟩ := h
  have h4 := hf.many
  have h5 := hf.used
  rw [filesP_length] at h4
  refine (vsync_any hV n hn hk.2.1).mono ?_
  rintro e w' ⟨rfl, fs', he, hL⟩
  exact ⟨rfl, Duo.left h2 h3 hV hR hO ha hk hl he hL⟩
theorem duo_rsync (h : Duo w0 w p q o room l l2 lo A xs X) (hf : Fits l2) (n : ByteArray) (hn : n.size ≤ maxLen) :
    Calls Tryd.prog 18 #[.pointer (some ⟨q, 0, none⟩), .string n] w fun e w' => e = .returned (.int .i64 (syncM l2 n).2) ∧ Duo w0 w' p q o room l (syncM l2 n).1 lo A xs X := by
  obtain ⟨S, T, O, fs, gs, os, h1, rfl, h3, hV, hR, hO, ha, hk, hl⟩ := h
  have h4 := hf.many
  have h5 := hf.used
  rw [filesOf_length] at h4
  refine (rsync_any hR n hn (by omega)).mono ?_
  rintro e w' ⟨rfl, gs', he, hL⟩
  exact ⟨rfl, Duo.right h1 h3 hV hR hO ha hk hl he hL⟩
theorem duo_cut (h : Duo w0 w p q o room l l2 lo A xs X) (hf : Fits l) (n : ByteArray) (k : Int) (hn : n.size ≤ maxLen) :
    Calls Tryd.prog 19 #[.pointer (some ⟨p, 0, none⟩), .string n, .int .i64 k] w fun e w' => e = .returned (.int .i64 (cutM l n k).2) ∧ Duo w0 w' p q o room (cutM l n k).1 l2 lo A xs X := by
  obtain ⟨S, T, O, fs, gs, os, rfl, h2, h3, hV, hR, hO, ha, hk, hl⟩ := h
  have h4 := hf.many
  have h5 := hf.used
  rw [filesP_length] at h4
  refine (vcut_any hV n k hn hk.2.1 (by omega)).mono ?_
  rintro e w' ⟨rfl, fs', he, hL⟩
  exact ⟨rfl, Duo.left h2 h3 hV hR hO ha hk hl he hL⟩
theorem duo_rcut (h : Duo w0 w p q o room l l2 lo A xs X) (hf : Fits l2) (n : ByteArray) (k : Int) (hn : n.size ≤ maxLen) :
    Calls Tryd.prog 20 #[.pointer (some ⟨q, 0, none⟩), .string n, .int .i64 k] w fun e w' => e = .returned (.int .i64 (cutM l2 n k).2) ∧ Duo w0 w' p q o room l (cutM l2 n k).1 lo A xs X := by
  obtain ⟨S, T, O, fs, gs, os, h1, rfl, h3, hV, hR, hO, ha, hk, hl⟩ := h
  have h4 := hf.many
  have h5 := hf.used
  rw [filesOf_length] at h4
  refine (rcut_any hR n k hn (by omega)).mono ?_
  rintro e w' ⟨rfl, gs', he, hL⟩
  exact ⟨rfl, Duo.right h1 h3 hV hR hO ha hk hl he hL⟩
theorem duo_remove (h : Duo w0 w p q o room l l2 lo A xs X) (hf : Fits l) (n : ByteArray) (hn : n.size ≤ maxLen) :
    Calls Tryd.prog 23 #[.pointer (some ⟨p, 0, none⟩), .string n] w fun e w' => e = .returned (.int .i64 (removeM l n).2) ∧ Duo w0 w' p q o room (removeM l n).1 l2 lo A xs X := by
  obtain ⟨S, T, O, fs, gs, os, rfl, h2, h3, hV, hR, hO, ha, hk, hl⟩ := h
  have h4 := hf.many
  have h5 := hf.used
  rw [filesP_length] at h4
  refine (vremove_any hV n hn hk.2.1 (by omega)).mono ?_
  rintro e w' ⟨rfl, fs', he, hL⟩
  exact ⟨rfl, Duo.left h2 h3 hV hR hO ha hk hl he hL⟩
theorem duo_rremove (h : Duo w0 w p q o room l l2 lo A xs X) (hf : Fits l2) (n : ByteArray) (hn : n.size ≤ maxLen) :
    Calls Tryd.prog 24 #[.pointer (some ⟨q, 0, none⟩), .string n] w fun e w' => e = .returned (.int .i64 (removeM l2 n).2) ∧ Duo w0 w' p q o room l (removeM l2 n).1 lo A xs X := by
  obtain ⟨S, T, O, fs, gs, os, h1, rfl, h3, hV, hR, hO, ha, hk, hl⟩ := h
  have h4 := hf.many
  have h5 := hf.used
  rw [filesOf_length] at h4
  refine (rremove_any hR n hn (by omega)).mono ?_
  rintro e w' ⟨⟨rfl, gs', he, hL⟩, _⟩
  exact ⟨rfl, Duo.right h1 h3 hV hR hO ha hk hl he hL⟩
theorem duo_rename (h : Duo w0 w p q o room l l2 lo A xs X) (hf : Fits l) (n b : ByteArray) (hn : n.size ≤ 281474976710656) (hb : b.size ≤ 281474976710656) :
    Calls Tryd.prog 21 #[.pointer (some ⟨p, 0, none⟩), .string n, .string b] w fun e w' => e = .returned (.int .i64 (renameM l n b).2) ∧ Duo w0 w' p q o room (renameM l n b).1 l2 lo A xs X := by
  obtain ⟨S, T, O, fs, gs, os, rfl, h2, h3, hV, hR, hO, ha, hk, hl⟩ := h
  have h4 := hf.many
  have h5 := hf.used
  rw [filesP_length] at h4
  refine (vrename_any hV n b hn hb hk.2.1 (by omega) (by omega)).mono ?_
  rintro e w' ⟨rfl, fs', he, hL⟩
  exact ⟨rfl, Duo.left h2 h3 hV hR hO ha hk hl he hL⟩
theorem duo_rrename (h : Duo w0 w p q o room l l2 lo A xs X) (hf : Fits l2) (n b : ByteArray) (hn : n.size ≤ 281474976710656) (hb : b.size ≤ 281474976710656) :
    Calls Tryd.prog 22 #[.pointer (some ⟨q, 0, none⟩), .string n, .string b] w fun e w' => e = .returned (.int .i64 (renameM l2 n b).2) ∧ Duo w0 w' p q o room l (renameM l2 n b).1 lo A xs X := by
  obtain ⟨S, T, O, fs, gs, os, h1, rfl, h3, hV, hR, hO, ha, hk, hl⟩ := h
  have h4 := hf.many
  have h5 := hf.used
  rw [filesOf_length] at h4
  have hn' : n.size ≤ maxLen := by unfold maxLen; omega
  have hb' : b.size ≤ maxLen := by unfold maxLen; omega
  have hall : Calls Tryd.prog 22 #[.pointer (some ⟨q, 0, none⟩), .string n, .string b] w (RDoes w0.heap.size T q room (renameM (filesOf gs) n b) w) := by
    by_cases hv : validS n = true ∧ validS b = true
    · exact rrename_right hR n b hn' hb' hv.1 hv.2 (by omega)
    · exact rrename_bad hR n b hn' hb' (by
        cases ha : validS n with
        | false => exact .inl rfl
        | true => cases hb2 : validS b with
          | false => exact .inr rfl
          | true => exact absurd ⟨ha, hb2⟩ hv)
  refine hall.mono ?_
  rintro e w' ⟨rfl, gs', he, hL⟩
  exact ⟨rfl, Duo.right h1 h3 hV hR hO ha hk hl he hL⟩
theorem duo_crash (h : Duo w0 w p q o room l l2 lo A xs X) (hf : Fits l) (B : Option Addr) (ks : List Int) (c : Nat) (hl : Lies .i64 w0 w0.heap.size B ks) (hc : ks.length ≤ c) (hcm : c ≤ maxLen) :
    Calls Tryd.prog 11 #[.pointer (some ⟨p, 0, none⟩), .slice B ks.length c] w fun e w' => e = .returned (.tuple #[]) ∧ Duo w0 w' p q o room (crashM l ks) l2 lo A xs X := by
  obtain ⟨S, T, O, fs, gs, os, rfl, h2, h3, hV, hR, hO, ha, hk, hla⟩ := h
  have h4 := hf.many
  have h5 := hf.used
  rw [filesP_length] at h4
  refine (vcrash_any hV B ks c (LiesI.of (hl.below hk.1) (Nat.le_refl _) hV.within) hc hcm (by omega) (by omega)).mono ?_
  rintro e w' ⟨rfl, fs', he, hL⟩
  exact ⟨rfl, Duo.left h2 h3 hV hR hO ha hk hla he hL⟩
theorem duo_rcrash (h : Duo w0 w p q o room l l2 lo A xs X) (hf : Fits l2) (B : Option Addr) (ks : List Int) (c : Nat) (hl : Lies .i64 w0 w0.heap.size B ks) (hc : ks.length ≤ c) (hcm : c ≤ maxLen) :
    Calls Tryd.prog 25 #[.pointer (some ⟨q, 0, none⟩), .slice B ks.length c] w fun e w' => e = .returned (.tuple #[]) ∧ Duo w0 w' p q o room l (crashM l2 ks) lo A xs X := by
  obtain ⟨S, T, O, fs, gs, os, h1, rfl, h3, hV, hR, hO, ha, hk, hla⟩ := h
  have h4 := hf.many
  have h5 := hf.used
  rw [filesOf_length] at h4
  refine (rcrash_any hR B ks c (LiesI.of (hl.below hk.1) (Nat.le_refl _) hR.1) hc hcm (by omega) fun y hy => Nat.le_trans (usedL_ge hy) (by omega)).mono ?_
  rintro e w' ⟨rfl, gs', he, hL⟩
  exact ⟨rfl, Duo.right h1 h3 hV hR hO ha hk hla he hL⟩
/-! What only reads: new blocks alone. -/
theorem duo_read (h : Duo w0 w p q o room l l2 lo A xs X) (hf : Fits l) (n : ByteArray) (hn : n.size ≤ maxLen) :
    Calls Tryd.prog 12 #[.pointer (some ⟨p, 0, none⟩), .string n] w fun e w' => ∃ v, e = .returned (.tuple #[v, .int .i64 (getM l n).2]) ∧ Own .u8 5 w' w.heap.size v (getM l n).1.b ∧ Below w.heap.size w w' := by
  obtain ⟨S, T, O, fs, gs, os, rfl, h2, h3, hV, hR, hO, ha, hk, hl⟩ := h
  have h5 := hf.used
  exact vread_any hV n hn hk.2.1 fun x hx => Nat.le_trans (used_ge hx) (by omega)
theorem duo_rread (h : Duo w0 w p q o room l l2 lo A xs X) (hf : Fits l2) (n : ByteArray) (hn : n.size ≤ maxLen) :
    Calls Tryd.prog 26 #[.pointer (some ⟨q, 0, none⟩), .string n] w fun e w' => ∃ v, e = .returned (.tuple #[v, .int .i64 (getM l2 n).2]) ∧ Own .u8 5 w' w.heap.size v (getM l2 n).1.b ∧ Below w.heap.size w w' := by
  obtain ⟨S, T, O, fs, gs, os, h1, rfl, h3, hV, hR, hO, ha, hk, hl⟩ := h
  have h5 := hf.used
  exact rread_any _ _ w q room gs n hR hn (Nat.le_trans (got_ge _ _) (by omega))
theorem duo_loose (h : Duo w0 w p q o room l l2 lo A xs X) (n : ByteArray) (hn : n.size ≤ maxLen) :
    Calls Tryd.prog 27 #[.pointer (some ⟨p, 0, none⟩), .string n] w fun e w' => e = .returned (.int .i64 ((getM l n).1.loose : Int)) ∧ Below w.heap.size w w' := by
  obtain ⟨S, T, O, fs, gs, os, rfl, h2, h3, hV, hR, hO, ha, hk, hl⟩ := h
  exact vloose_any hV n hn hk.2.1
theorem duo_rloose (h : Duo w0 w p q o room l l2 lo A xs X) (n : ByteArray) (hn : n.size ≤ maxLen) :
    Calls Tryd.prog 28 #[.pointer (some ⟨q, 0, none⟩), .string n] w fun e w' => e = .returned (.int .i64 ((getM l2 n).1.loose : Int)) ∧ Below w.heap.size w w' := by
  obtain ⟨S, T, O, fs, gs, os, h1, rfl, h3, hV, hR, hO, ha, hk, hl⟩ := h
  exact rloose_any _ _ w q room gs n hR hn
theorem duo_used (h : Duo w0 w p q o room l l2 lo A xs X) :
    Calls Tryd.prog 29 #[.pointer (some ⟨p, 0, none⟩)] w fun e w' => e = .returned (.int .i64 ((usedM l : Nat) : Int)) ∧ w = w' := by
  obtain ⟨S, T, O, fs, gs, os, rfl, h2, h3, hV, hR, hO, ha, hk, hl⟩ := h
  exact vused_any hV
theorem duo_rused (h : Duo w0 w p q o room l l2 lo A xs X) (hf : Fits l2) :
    Calls Tryd.prog 30 #[.pointer (some ⟨q, 0, none⟩)] w fun e w' => e = .returned (.int .i64 ((usedM l2 : Nat) : Int)) ∧ w = w' := by
  obtain ⟨S, T, O, fs, gs, os, h1, rfl, h3, hV, hR, hO, ha, hk, hl⟩ := h
  have h5 := hf.used
  exact rused_any _ _ w q room gs hR (by omega)
theorem OwnT.texts {w : World} {b : Nat} {v : Value} {ns : List ByteArray} (h : OwnT w b v ns) : ∃ A c, v = .slice A ns.length c ∧ TextsLie w A ns := by
  have h' := h
  rcases h.2 with ⟨rfl, h0⟩ | ⟨g, cap, cur, rfl, hbg, hg, hc, hm, _⟩
  · exact ⟨none, 0, by rw [h0], fun hp => by omega⟩
  · refine ⟨_, _, rfl, fun _ => ⟨g, rfl, fun i hi => ?_⟩⟩
    have := World.ownsRow.cells (g := g) h' rfl i (.string ns[i]) (by simp [hi])
    rw [add_lit, Nat.zero_add] at this
    exact this
theorem duo_list (h : Duo w0 w p q o room l l2 lo A xs X) (hf : Fits l) :
    Calls Tryd.prog 32 #[.pointer (some ⟨p, 0, none⟩)] w fun e w' => ∃ v, e = .returned v ∧ OwnT w' w.heap.size v (namesM l) ∧ Below w.heap.size w w' := by
  obtain ⟨S, T, O, fs, gs, os, rfl, h2, h3, hV, hR, hO, ha, hk, hl⟩ := h
  have h4 := hf.many
  rw [filesP_length] at h4
  refine (vlist_any hV (by omega)).mono ?_
  rintro e w' ⟨v, rfl, ho, hb⟩
  have e1 : namesM (filesP fs) = fs.map fun x => x.f.name := by unfold namesM filesP; rw [List.map_map]; rfl
  refine ⟨v, rfl, ?_, hb⟩
  unfold OwnT
  rw [e1]
  exact ho
theorem duo_rlist (h : Duo w0 w p q o room l l2 lo A xs X) (hf : Fits l2) :
    Calls Tryd.prog 33 #[.pointer (some ⟨q, 0, none⟩)] w fun e w' => ∃ v, e = .returned v ∧ OwnT w' w.heap.size v (namesM l2) ∧ Below w.heap.size w w' := by
  obtain ⟨S, T, O, fs, gs, os, h1, rfl, h3, hV, hR, hO, ha, hk, hl⟩ := h
  have h4 := hf.many
  rw [filesOf_length] at h4
  exact rlist_any _ _ w q room gs hR (by omega)
end
end Go.Proofs.YtefjbefmmmllbaaDoor
