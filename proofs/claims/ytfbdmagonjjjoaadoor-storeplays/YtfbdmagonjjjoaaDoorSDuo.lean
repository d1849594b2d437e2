/- A store of the program's, one of the document's and another one of the program's, side by side, over a row of calls; bytes that lie beside them. -/
import Derived.Test.YtfbdmagonjjjoaaDoorRSPutAny
import Derived.Test.YtfbdmagonjjjoaaDoorVSList
import Derived.Test.YtfbdmagonjjjoaaDoorSLaw
import Derived.Test.YtfbdmagonjjjoaaDoorSameStr
namespace Go.Proofs.YtfbdmagonjjjoaaDoor
open Go.RowKit Go.Maps

theorem usedO_ge {fs : List FileV} {x : FileV} (hx : x ∈ fs) : x.1.b.length ≤ usedM (filesOf fs) := by
  induction fs with
  | nil => cases hx
  | cons a t ih =>
    show _ ≤ usedM (a.1 :: filesOf t)
    rw [usedM_cons]
    rcases List.mem_cons.1 hx with ex | hx2
    · rw [ex]; omega
    · have := ih hx2; omega
/-- How great objects and numbers may be. -/
structure Fits (l : List FileM) (bad : List Int) : Prop where
  many : l.length ≤ 1000
  used : usedM l ≤ 1000000
  bad : bad.length ≤ 100000
/-- Bytes and whole blocks that lie in no block of S. -/
def Aside (S : Nat → Prop) (w : World) (A : Option Addr) (xs : List Int) (X : Nat → Option Obj) : Prop := LiesOff S w A xs ∧ ∀ g ob, X g = some ob → ¬ S g ∧ w.heap[g]? = some ob
theorem some_lt {w : World} {g : Nat} {ob : Obj} (h : w.heap[g]? = some ob) : g < w.heap.size := (Array.getElem?_eq_some_iff.1 h).1
theorem Aside.keep {S : Nat → Prop} {w w' : World} {A : Option Addr} {xs : List Int} {X : Nat → Option Obj} (h : Aside S w A xs X) (hk : Keep S w w') : Aside (Grow S w w') w' A xs X :=
  ⟨h.1.keep hk, fun g ob hg => ⟨fun hs => by
    rcases hs with hs | hs
    · exact (h.2 g ob hg).1 hs
    · have := some_lt (h.2 g ob hg).2; omega, by rw [hk.block g (some_lt (h.2 g ob hg).2) (h.2 g ob hg).1]; exact (h.2 g ob hg).2⟩⟩
theorem Aside.mono {S S' : Nat → Prop} {w : World} {A : Option Addr} {xs : List Int} {X : Nat → Option Obj} (h : Aside S w A xs X) (hs : ∀ i, i < w.heap.size → S' i → S i) : Aside S' w A xs X :=
  ⟨h.1.mono hs, fun g ob hg => ⟨fun h2 => (h.2 g ob hg).1 (hs g (some_lt (h.2 g ob hg).2) h2), (h.2 g ob hg).2⟩⟩
theorem Aside.below {S : Nat → Prop} {w w' : World} {A : Option Addr} {xs : List Int} {X : Nat → Option Obj} (h : Aside S w A xs X) (hb : Below w.heap.size w w') : Aside S w' A xs X :=
  ⟨h.1.below hb, fun g ob hg => ⟨(h.2 g ob hg).1, by rw [hb.block g (some_lt (h.2 g ob hg).2)]; exact (h.2 g ob hg).2⟩⟩
/-- The three stores, made since w0, have nothing in common; bytes lie beside them. -/
def Duo (w0 w : World) (p q o : Nat) (room : Int) (l : List FileM) (bad : List Int) (l2 : List FileM) (bad2 : List Int) (lo : List FileM) (A : Option Addr) (xs : List Int) (X : Nat → Option Obj) : Prop :=
  ∃ S T O fs gs os, filesP fs = l ∧ filesOf gs = l2 ∧ filesP os = lo ∧ VStore w0.heap.size S w p room fs bad ∧ RStore w0.heap.size T w q room gs bad2 ∧ VStore w0.heap.size O w o 99 os [] ∧
    ((∀ i, S i → ¬ T i) ∧ (∀ i, S i → ¬ O i) ∧ (∀ i, T i → ¬ O i)) ∧ (Below w0.heap.size w0 w ∧ Tabs w ∧ 2 ≤ w0.heap.size ∧ 0 ≤ room ∧ room ≤ 9223372036854775807) ∧ Aside (fun i => S i ∨ T i ∨ O i) w A xs X
section
variable {w0 w w' : World} {p q o : Nat} {room : Int} {l l2 lo : List FileM} {bad bad2 : List Int} {A : Option Addr} {xs : List Int} {X : Nat → Option Obj}
theorem Duo.since (h : Duo w0 w p q o room l bad l2 bad2 lo A xs X) : Below w0.heap.size w0 w := by obtain ⟨_, _, _, _, _, _, _, _, _, _, _, _, _, ⟨h3, _⟩, _⟩ := h; exact h3
theorem Duo.lies (h : Duo w0 w p q o room l bad l2 bad2 lo A xs X) : Lies .u8 w w.heap.size A xs := by
  obtain ⟨_, _, _, _, _, _, _, _, _, _, _, _, _, _, h⟩ := h
  exact h.1.lies
theorem Duo.held (h : Duo w0 w p q o room l bad l2 bad2 lo A xs X) {g : Nat} {ob : Obj} (hg : X g = some ob) : w.heap[g]? = some ob := by
  obtain ⟨_, _, _, _, _, _, _, _, _, _, _, _, _, _, h⟩ := h
  exact (h.2 g ob hg).2
theorem Duo.below (h : Duo w0 w p q o room l bad l2 bad2 lo A xs X) (hb : Below w.heap.size w w') : Duo w0 w' p q o room l bad l2 bad2 lo A xs X := by
  obtain ⟨S, T, O, fs, gs, os, h1, h2, h3, hV, hR, hO, ha, ⟨k1, k2, k3⟩, hl⟩ := h
  exact ⟨S, T, O, fs, gs, os, h1, h2, h3, hV.below hb, hR.below hb, hO.below hb, ha, ⟨k1.trans (hb.mono k1.size), k2.below hb, k3⟩, hl.below hb⟩
theorem Duo.drewN (h : Duo w0 w p q o room l bad l2 bad2 lo A xs X) (m : Nat) : Duo w0 (w.drewN m) p q o room l bad l2 bad2 lo A xs X := h.below (below_drewN (Below.refl _ _) m)
theorem Duo.bare (h : Duo w0 w p q o room l bad l2 bad2 lo A xs X) : Duo w0 w p q o room l bad l2 bad2 lo none [] X := by
  obtain ⟨S, T, O, fs, gs, os, h1, h2, h3, hV, hR, hO, ha, hk, hl⟩ := h
  exact ⟨S, T, O, fs, gs, os, h1, h2, h3, hV, hR, hO, ha, hk, LiesOff.none, hl.2⟩
/-- New bytes. -/
theorem Duo.fresh (h : Duo w0 w p q o room l bad l2 bad2 lo A xs X) (hb : Below w.heap.size w w') {B : Option Addr} {n c : Nat} {ys : List Int} (ho : Own .u8 5 w' w.heap.size (.slice B n c) ys) : Duo w0 w' p q o room l bad l2 bad2 lo B ys X := by
  obtain ⟨S, T, O, fs, gs, os, h1, h2, h3, hV, hR, hO, ha, ⟨k1, k2, k3⟩, hl⟩ := h
  refine ⟨S, T, O, fs, gs, os, h1, h2, h3, hV.below hb, hR.below hb, hO.below hb, ha, ⟨k1.trans (hb.mono k1.size), k2.below hb, k3⟩, fun hn => ?_, (hl.below hb).2⟩
  obtain ⟨g, c', hv, hg1, hg2, _⟩ := ho.spot (List.length_pos_iff.2 hn)
  obtain ⟨b, off, hA, hbl, hcell⟩ := ho.lies hn
  injection hv with hv1
  rw [hv1] at hA
  injection hA with hA
  injection hA with e1 e2 _
  subst e1 e2
  refine ⟨g, 0, hv1, hg2, fun hs => ?_, hcell⟩
  rcases hs with hs | hs | hs
  · have := (hV.within.2 g hs).2; omega
  · have := (hR.1.2 g hs).2; omega
  · have := (hO.within.2 g hs).2; omega
/-- A box of the call's own. -/
theorem Duo.box (h : Duo w0 w p q o room l bad l2 bad2 lo none [] (fun _ => none)) (ob : Obj) : Duo w0 (w.alloc ob) p q o room l bad l2 bad2 lo none [] (fun g => if g = w.heap.size then some ob else none) := by
  have hb : Below w.heap.size w (w.alloc ob) := (Below.refl _ _).alloc (Nat.le_refl _) _
  obtain ⟨S, T, O, fs, gs, os, h1, h2, h3, hV, hR, hO, ha, ⟨k1, k2, k3⟩, hl⟩ := h
  refine ⟨S, T, O, fs, gs, os, h1, h2, h3, hV.below hb, hR.below hb, hO.below hb, ha, ⟨k1.trans (hb.mono k1.size), k2.below hb, k3⟩, LiesOff.none, fun g ob' hg => ?_⟩
  dsimp only at hg
  split at hg
  · rename_i hge
    injection hg with hg
    subst hge hg
    refine ⟨fun hs => ?_, ?_⟩
    · rcases hs with hs | hs | hs
      · have := (hV.within.2 _ hs).2; omega
      · have := (hR.1.2 _ hs).2; omega
      · have := (hO.within.2 _ hs).2; omega
    · show (w.heap.push ob)[w.heap.size]? = _
      simp
  · cases hg
theorem Duo.unbox (h : Duo w0 w p q o room l bad l2 bad2 lo A xs X) : Duo w0 w p q o room l bad l2 bad2 lo none [] (fun _ => none) := by
  obtain ⟨S, T, O, fs, gs, os, h1, h2, h3, hV, hR, hO, ha, hk, hl⟩ := h
  exact ⟨S, T, O, fs, gs, os, h1, h2, h3, hV, hR, hO, ha, hk, LiesOff.none, fun _ _ h => by cases h⟩
theorem grow_off {S T : Nat → Prop} (hT : ∀ i, T i → i < w.heap.size) (h : ∀ i, S i → ¬ T i) : ∀ i, Grow S w w' i → ¬ T i := fun i hi ht => by
  rcases hi with hi | hi
  · exact h i hi ht
  · have := hT i ht; omega
/-- A call on the program's own. -/
theorem Duo.left {S T O : Nat → Prop} {fs fs' : List FileP} {gs : List FileV} {os : List FileP} {l' : List FileM} {bad' : List Int} (h2 : filesOf gs = l2) (h3 : filesP os = lo) (hV : VStore w0.heap.size S w p room fs bad) (hR : RStore w0.heap.size T w q room gs bad2) (hO : VStore w0.heap.size O w o 99 os [])
    (ha : (∀ i, S i → ¬ T i) ∧ (∀ i, S i → ¬ O i) ∧ (∀ i, T i → ¬ O i)) (hk : Below w0.heap.size w0 w ∧ Tabs w ∧ 2 ≤ w0.heap.size ∧ 0 ≤ room ∧ room ≤ 9223372036854775807) (hl : Aside (fun i => S i ∨ T i ∨ O i) w A xs X)
    (he : filesP fs' = l') (hL : Left w0.heap.size S w w' p room ((usedM (filesP fs') : Nat) : Int) fs' bad') : Duo w0 w' p q o room l' bad' l2 bad2 lo A xs X := by
  have hb := hL.below_base hV.within
  obtain ⟨k1, k2, k3, k4⟩ := hk
  refine ⟨_, T, O, fs', gs, os, he, h2, h3, hL.store, hR.keep hL.keep fun i hi hs => ha.1 i hs hi, hO.keep hL.keep fun i hi hs => ha.2.1 i hs hi, ⟨grow_off (fun i hi => (hR.1.2 i hi).2) ha.1, grow_off (fun i hi => (hO.within.2 i hi).2) ha.2.1, ha.2.2⟩, ⟨k1.trans hb, k2.past hb k3, k3, k4⟩, ?_⟩
  refine (hl.keep (hL.keep.mono fun i hi => .inl hi)).mono fun i _ hi => ?_
  rcases hi with (hi | hi) | hi | hi
  · exact .inl (.inl hi)
  · exact .inr hi
  · exact .inl (.inr (.inl hi))
  · exact .inl (.inr (.inr hi))
/-- A call on the document's own. -/
theorem Duo.right {S T O : Nat → Prop} {fs : List FileP} {gs gs' : List FileV} {os : List FileP} {l' : List FileM} {bad' : List Int} (h1 : filesP fs = l) (h3 : filesP os = lo) (hV : VStore w0.heap.size S w p room fs bad) (hR : RStore w0.heap.size T w q room gs bad2) (hO : VStore w0.heap.size O w o 99 os [])
    (ha : (∀ i, S i → ¬ T i) ∧ (∀ i, S i → ¬ O i) ∧ (∀ i, T i → ¬ O i)) (hk : Below w0.heap.size w0 w ∧ Tabs w ∧ 2 ≤ w0.heap.size ∧ 0 ≤ room ∧ room ≤ 9223372036854775807) (hl : Aside (fun i => S i ∨ T i ∨ O i) w A xs X)
    (he : filesOf gs' = l') (hL : OLeft w0.heap.size T w w' q room gs' bad') : Duo w0 w' p q o room l bad l' bad' lo A xs X := by
  have hb := hL.keep.below hR.1
  obtain ⟨k1, k2, k3, k4⟩ := hk
  refine ⟨S, _, O, fs, gs', os, h1, he, h3, hV.keep hL.keep ha.1, hL.store, hO.keep hL.keep fun i hi hs => ha.2.2 i hs hi, ⟨fun i hi hg => grow_off (fun i hi => (hV.within.2 i hi).2) (fun i ht hs => ha.1 i hs ht) i hg hi, ha.2.1, grow_off (fun i hi => (hO.within.2 i hi).2) ha.2.2⟩, ⟨k1.trans hb, k2.past hb k3, k3, k4⟩, ?_⟩
  refine (hl.keep (hL.keep.mono fun i hi => .inr (.inl hi))).mono fun i _ hi => ?_
  rcases hi with hi | (hi | hi) | hi
  · exact .inl (.inl hi)
  · exact .inl (.inr (.inl hi))
  · exact .inr hi
  · exact .inl (.inr (.inr hi))
/-- A call on the other one. -/
theorem Duo.other {S T O : Nat → Prop} {fs : List FileP} {gs : List FileV} {os os' : List FileP} {l' : List FileM} (h1 : filesP fs = l) (h2 : filesOf gs = l2) (hV : VStore w0.heap.size S w p room fs bad) (hR : RStore w0.heap.size T w q room gs bad2) (hO : VStore w0.heap.size O w o 99 os [])
    (ha : (∀ i, S i → ¬ T i) ∧ (∀ i, S i → ¬ O i) ∧ (∀ i, T i → ¬ O i)) (hk : Below w0.heap.size w0 w ∧ Tabs w ∧ 2 ≤ w0.heap.size ∧ 0 ≤ room ∧ room ≤ 9223372036854775807) (hl : Aside (fun i => S i ∨ T i ∨ O i) w A xs X)
    (he : filesP os' = l') (hL : Left w0.heap.size O w w' o 99 ((usedM (filesP os') : Nat) : Int) os' []) : Duo w0 w' p q o room l bad l2 bad2 l' A xs X := by
  have hb := hL.below_base hO.within
  obtain ⟨k1, k2, k3, k4⟩ := hk
  refine ⟨S, T, _, fs, gs, os', h1, h2, he, hV.keep hL.keep ha.2.1, hR.keep hL.keep ha.2.2, hL.store, ⟨ha.1, fun i hi hg => grow_off (fun i hi => (hV.within.2 i hi).2) (fun i ht hs => ha.2.1 i hs ht) i hg hi, fun i hi hg => grow_off (fun i hi => (hR.1.2 i hi).2) (fun i ht hs => ha.2.2 i hs ht) i hg hi⟩, ⟨k1.trans hb, k2.past hb k3, k3, k4⟩, ?_⟩
  refine (hl.keep (hL.keep.mono fun i hi => .inr (.inr hi))).mono fun i _ hi => ?_
  rcases hi with hi | hi | hi | hi
  · exact .inl (.inl hi)
  · exact .inl (.inr (.inl hi))
  · exact .inl (.inr (.inr hi))
  · exact .inr hi

/-! The calls. -/
theorem duo_put (h : Duo w0 w p q o room l bad l2 bad2 lo A xs X) (hf : Fits l bad) (n : ByteArray) (c : Nat) (hn : n.size ≤ 281474976710656) (hy : IsBytes xs) (hA : A = none → c = 0) (hc : xs.length ≤ c) (hyl : xs.length ≤ 500) :
    Calls Tryd.prog 10 #[.pointer (some ⟨p, 0, none⟩), .string n, .slice A xs.length c] w fun e w' => e = .returned (.int .i64 (faulty (bad.headD 0) l (putM room l n xs)).2) ∧ Duo w0 w' p q o room (faulty (bad.headD 0) l (putM room l n xs)).1 bad.tail l2 bad2 lo A xs X := by
  obtain ⟨S, T, O, fs, gs, os, rfl, h2, h3, hV, hR, hO, ha, hk, hl⟩ := h
  have h4 := hf.many
  have h5 := hf.used
  rw [filesP_length] at h4
  refine (vPut_any hV n A xs c hn hk.2.1 hk.2.2.1 hk.2.2.2.1 hk.2.2.2.2 (by omega) hy (hl.1.mono fun i _ hi => .inl hi) hA hc (by omega) (by omega)).mono ?_
  rintro e w' ⟨rfl, fs', he, hL⟩
  exact ⟨rfl, Duo.left h2 h3 hV hR hO ha hk hl he hL⟩
theorem duo_delete (h : Duo w0 w p q o room l bad l2 bad2 lo A xs X) (hf : Fits l bad) (n : ByteArray) (hn : n.size ≤ maxLen) :
    Calls Tryd.prog 14 #[.pointer (some ⟨p, 0, none⟩), .string n] w fun e w' => e = .returned (.int .i64 (faulty (bad.headD 0) l (removeM l n)).2) ∧ Duo w0 w' p q o room (faulty (bad.headD 0) l (removeM l n)).1 bad.tail l2 bad2 lo A xs X := by
  obtain ⟨S, T, O, fs, gs, os, rfl, h2, h3, hV, hR, hO, ha, hk, hl⟩ := h
  have h5 := hf.used
  refine (vDelete_any hV n hn hk.2.1 hk.2.2.1 (by omega)).mono ?_
  rintro e w' ⟨rfl, fs', he, hL⟩
  exact ⟨rfl, Duo.left h2 h3 hV hR hO ha hk hl he hL⟩
theorem duo_fail (h : Duo w0 w p q o room l bad l2 bad2 lo A xs X) (hf : Fits l bad) (B : Option Addr) (ys : List Int) (c : Nat) (hl : Lies .i64 w w.heap.size B ys) (hB : B = none → c = 0) (hc : ys.length ≤ c) (hy : ys.length ≤ 1000) :
    Calls Tryd.prog 12 #[.pointer (some ⟨p, 0, none⟩), .slice B ys.length c] w fun e w' => e = .returned (.tuple #[]) ∧ Duo w0 w' p q o room l (bad ++ ys) l2 bad2 lo A xs X := by
  obtain ⟨S, T, O, fs, gs, os, h1, h2, h3, hV, hR, hO, ha, hk, hla⟩ := h
  have h4 := hf.bad
  refine (vfail_any hV B ys c _ hl hB hc (by omega)).mono ?_
  rintro e w' ⟨rfl, hL⟩
  exact ⟨rfl, Duo.left h2 h3 hV hR hO ha hk hla h1 hL⟩
/-- Get: what it answers lies beside the stores. -/
theorem duo_get (h : Duo w0 w p q o room l bad l2 bad2 lo A xs X) (hf : Fits l bad) (n : ByteArray) (hn : n.size ≤ maxLen) :
    Calls Tryd.prog 13 #[.pointer (some ⟨p, 0, none⟩), .string n] w fun e w' => ∃ B c, e = .returned (.tuple #[.slice B (faultyG (bad.headD 0) (getM l n)).1.b.length c, .int .i64 (faultyG (bad.headD 0) (getM l n)).2]) ∧ Duo w0 w' p q o room l bad.tail l2 bad2 lo B (faultyG (bad.headD 0) (getM l n)).1.b X := by
  obtain ⟨S, T, O, fs, gs, os, rfl, h2, h3, hV, hR, hO, ha, hk, hla⟩ := h
  have h5 := hf.used
  refine (vGet_any hV n hn hk.2.1 hk.2.2.1 fun x hx => Nat.le_trans (used_ge hx) (by omega)).mono ?_
  rintro e w' ⟨v, w1, rfl, hL, ho, hb⟩
  obtain ⟨B, c, rfl, _⟩ := ho.form
  exact ⟨B, c, rfl, Duo.fresh (Duo.left h2 h3 hV hR hO ha hk hla rfl hL) hb ho⟩
theorem duo_rput (h : Duo w0 w p q o room l bad l2 bad2 lo A xs X) (hf : Fits l2 bad2) (n : ByteArray) (B : Option Addr) (ys : List Int) (c : Nat) (hn : n.size ≤ maxLen) (hy : IsBytes ys) (hl : Lies .u8 w0 w0.heap.size B ys) (hB : B = none → c = 0) (hc : ys.length ≤ c) (hyl : ys.length ≤ 500) :
    Calls Tryd.prog 19 #[.pointer (some ⟨q, 0, none⟩), .string n, .slice B ys.length c] w fun e w' => e = .returned (.int .i64 (faulty (bad2.headD 0) l2 (putM room l2 n ys)).2) ∧ Duo w0 w' p q o room l bad (faulty (bad2.headD 0) l2 (putM room l2 n ys)).1 bad2.tail lo A xs X := by
  obtain ⟨S, T, O, fs, gs, os, h1, rfl, h3, hV, hR, hO, ha, hk, hla⟩ := h
  have h4 := hf.many
  have h5 := hf.used
  have h6 := hf.bad
  rw [filesOf_length] at h4
  refine (osput_any hR n hn B ys c (by omega) (by omega) hk.2.2.2.1 hk.2.2.2.2 (by omega) hy ((hl.below hk.1).off (Nat.le_refl _) hR.1) hB hc (by omega)).mono ?_
  rintro e w' ⟨rfl, gs', he, hL⟩
  exact ⟨rfl, Duo.right h1 h3 hV hR hO ha hk hla he hL⟩
theorem duo_rdelete (h : Duo w0 w p q o room l bad l2 bad2 lo A xs X) (hf : Fits l2 bad2) (n : ByteArray) (hn : n.size ≤ maxLen) :
    Calls Tryd.prog 21 #[.pointer (some ⟨q, 0, none⟩), .string n] w fun e w' => e = .returned (.int .i64 (faulty (bad2.headD 0) l2 (removeM l2 n)).2) ∧ Duo w0 w' p q o room l bad (faulty (bad2.headD 0) l2 (removeM l2 n)).1 bad2.tail lo A xs X := by
  obtain ⟨S, T, O, fs, gs, os, h1, rfl, h3, hV, hR, hO, ha, hk, hla⟩ := h
  have h4 := hf.many
  have h6 := hf.bad
  rw [filesOf_length] at h4
  refine (osdel_any hR n hn (by omega) (by omega)).mono ?_
  rintro e w' ⟨rfl, gs', he, hL⟩
  exact ⟨rfl, Duo.right h1 h3 hV hR hO ha hk hla he hL⟩
theorem duo_rfail (h : Duo w0 w p q o room l bad l2 bad2 lo A xs X) (hf : Fits l2 bad2) (B : Option Addr) (ys : List Int) (c : Nat) (hl : Lies .i64 w w.heap.size B ys) (hB : B = none → c = 0) (hc : ys.length ≤ c) (hy : ys.length ≤ 1000) :
    Calls Tryd.prog 25 #[.pointer (some ⟨q, 0, none⟩), .slice B ys.length c] w fun e w' => e = .returned (.tuple #[]) ∧ Duo w0 w' p q o room l bad l2 (bad2 ++ ys) lo A xs X := by
  obtain ⟨S, T, O, fs, gs, os, h1, h2, h3, hV, hR, hO, ha, hk, hla⟩ := h
  have h4 := hf.bad
  refine (osfail_any hR B ys c hl hB hc (by omega)).mono ?_
  rintro e w' ⟨rfl, hL⟩
  exact ⟨rfl, Duo.right h1 h3 hV hR hO ha hk hla h2 hL⟩
/-- Get of the document's: the bytes that were there beside the stores stay, and those that are answered lie there too. -/
theorem duo_rget (h : Duo w0 w p q o room l bad l2 bad2 lo A xs X) (hf : Fits l2 bad2) (n : ByteArray) (hn : n.size ≤ maxLen) :
    Calls Tryd.prog 20 #[.pointer (some ⟨q, 0, none⟩), .string n] w fun e w' => ∃ B c, e = .returned (.tuple #[.slice B (faultyG (bad2.headD 0) (getM l2 n)).1.b.length c, .int .i64 (faultyG (bad2.headD 0) (getM l2 n)).2]) ∧ Duo w0 w' p q o room l bad l2 bad2.tail lo A xs X ∧ Lies .u8 w' w'.heap.size B (faultyG (bad2.headD 0) (getM l2 n)).1.b := by
  obtain ⟨S, T, O, fs, gs, os, h1, rfl, h3, hV, hR, hO, ha, hk, hla⟩ := h
  have h4 := hf.many
  have h5 := hf.used
  have h6 := hf.bad
  refine (osget_any hR n hn (by omega) fun x hx => Nat.le_trans (usedO_ge hx) (by omega)).mono ?_
  rintro e w' ⟨v, w1, rfl, hL, ho, hb⟩
  obtain ⟨B, c, rfl, _⟩ := ho.form
  exact ⟨B, c, rfl, (Duo.right h1 h3 hV hR hO ha hk hla rfl hL).below hb, ho.lies⟩
theorem OwnT.lower {w : World} {b b' : Nat} {v : Value} {ns : List ByteArray} (h : OwnT w b v ns) (hb : b' ≤ b) : OwnT w b' v ns := by
  refine ⟨h.1, ?_⟩
  rcases h.2 with h1 | ⟨g, cap, cur, h1, h2, h3⟩
  · exact .inl h1
  · exact .inr ⟨g, cap, cur, h1, by omega, h3⟩
theorem OwnT.texts {w : World} {b : Nat} {v : Value} {ns : List ByteArray} (h : OwnT w b v ns) : ∃ A c, v = .slice A ns.length c ∧ TextsLie w A ns := by
  have h' := h
  rcases h.2 with ⟨rfl, h0⟩ | ⟨g, cap, cur, rfl, hbg, hg, hc, hm, _⟩
  · exact ⟨none, 0, by rw [h0], fun hp => by omega⟩
  · refine ⟨_, _, rfl, fun _ => ⟨g, rfl, fun i hi => ?_⟩⟩
    have := World.ownsRow.cells (g := g) h' rfl i (.string ns[i]) (by simp [hi])
    rw [add_lit, Nat.zero_add] at this
    exact this
theorem duo_list (h : Duo w0 w p q o room l bad l2 bad2 lo A xs X) (hf : Fits l bad) :
    Calls Tryd.prog 22 #[.pointer (some ⟨p, 0, none⟩)] w fun e w' => ∃ v wx, e = .returned (.tuple #[v, .int .i64 (faultyL (bad.headD 0) l).2]) ∧ Duo w0 wx p q o room l bad.tail l2 bad2 lo A xs X ∧ Below wx.heap.size wx w' ∧ OwnT w' wx.heap.size v (faultyL (bad.headD 0) l).1 := by
  obtain ⟨S, T, O, fs, gs, os, rfl, h2, h3, hV, hR, hO, ha, hk, hl⟩ := h
  have h4 := hf.many
  rw [filesP_length] at h4
  refine (vList_any hV (by omega)).mono ?_
  rintro e w' ⟨v, w1, rfl, hL, ho, hb⟩
  exact ⟨v, w1, rfl, Duo.left h2 h3 hV hR hO ha hk hl rfl hL, hb, ho⟩
theorem duo_rlist {wx : World} {v : Value} {ns : List ByteArray} (h : Duo w0 wx p q o room l bad l2 bad2 lo A xs X) (hf : Fits l2 bad2) (hb : Below wx.heap.size wx w) (ho : OwnT w wx.heap.size v ns) :
    Calls Tryd.prog 23 #[.pointer (some ⟨q, 0, none⟩)] w fun e w' => ∃ v2, e = .returned (.tuple #[v2, .int .i64 (faultyL (bad2.headD 0) l2).2]) ∧ Duo w0 w' p q o room l bad l2 bad2.tail lo A xs X ∧ OwnT w' 0 v ns ∧ OwnT w' 0 v2 (faultyL (bad2.headD 0) l2).1 := by
  have hx := h.below hb
  obtain ⟨S, T, O, fs, gs, os, h1, rfl, h3, hV, hR, hO, ha, hk, hl⟩ := h
  have hRb := hR.below hb
  have hkb : Below w0.heap.size w0 w ∧ Tabs w ∧ 2 ≤ w0.heap.size ∧ 0 ≤ room ∧ room ≤ 9223372036854775807 := ⟨hk.1.trans (hb.mono hk.1.size), hk.2.1.below hb, hk.2.2⟩
  have h4 := hf.many
  have h6 := hf.bad
  rw [filesOf_length] at h4
  refine (oslist_any _ _ w q room gs bad2 hRb (by omega) (by omega)).mono ?_
  rintro e w' ⟨v2, w1, rfl, hL, ho2, hb2⟩
  refine ⟨v2, rfl, (Duo.right h1 h3 (hV.below hb) hRb (hO.below hb) ha hkb (hl.below hb) rfl hL).below hb2, ?_, ho2.lower (Nat.zero_le _)⟩
  have ho0 : OwnT w1 0 v ns := ownsRow_same (ho.lower (Nat.zero_le _)) fun g cur hg hc => hL.keep.block g (some_lt hc) fun ht => by
    have h7 := (hR.1.2 g ht).2
    have h8 := (World.ownsRow.lt ho g hg).1
    omega
  exact ho0.below hb2
end
end Go.Proofs.YtfbdmagonjjjoaaDoor
