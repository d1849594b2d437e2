/- One store over a row of calls, as the statements' texts make them, and bytes that lie beside it; the document's example. -/
import Derived.Test.YtfbdmagonjjjoaaDoorVSAll
import Derived.Lib.SlBytesConst
namespace Go.Proofs.YtfbdmagonjjjoaaDoor
open Go.RowKit Go.Maps

/-- A store that was made since the world w0: its room, its objects, its numbers; bytes that lie beside it. -/
def SX (w0 w : World) (p : Nat) (room : Int) (l : List FileM) (bad : List Int) (A : Option Addr) (xs : List Int) : Prop :=
  ∃ S fs, filesP fs = l ∧ VStore w0.heap.size S w p room fs bad ∧ (Below w0.heap.size w0 w ∧ Tabs w ∧ 2 ≤ w0.heap.size ∧ l.length < 1000000000 ∧ usedM l ≤ 549755813888 ∧ bad.length < 1000000 ∧ 0 ≤ room ∧ room ≤ 9223372036854775807) ∧ LiesOff S w A xs
theorem cell_new_marked (w : World) (C : Array Value) (e : TypeId) (fr : Nat × Nat) (j : Nat) : (w.alloc (.cells C e fr)).cell? ⟨w.heap.size, j, none⟩ = C[j]? := by
  have h : (w.alloc (.cells C e fr)).heap[w.heap.size]? = some (.cells C e fr) := by
    show (w.heap.push (.cells C e fr))[w.heap.size]? = _
    simp
  unfold World.cell?
  rw [h]
  rfl
theorem num_any (k : Int) (w : World) : Calls Tryd.prog 15 #[.int .i64 k] w fun e w' => e = .returned (.int .i64 k) ∧ w' = w := by
  go_enter Tryd.func15, Tryd.ntmps15
  go_wp2
  go_ret
  exact ⟨rfl, rfl⟩
section
variable {w0 w : World} {p : Nat} {room : Int} {l : List FileM} {bad : List Int} {A : Option Addr} {xs : List Int}
theorem LiesOff.below {S : Nat → Prop} {w' : World} (h : LiesOff S w A xs) (hb : Below w.heap.size w w') : LiesOff S w' A xs :=
  (h.keep (Keep.of_below (S := S) hb)).mono fun _ _ h => .inl h
theorem LiesOff.none {S : Nat → Prop} : LiesOff S w A [] := fun h => absurd rfl h
theorem SX.below {w' : World} (h : SX w0 w p room l bad A xs) (hb : Below w.heap.size w w') : SX w0 w' p room l bad A xs := by
  obtain ⟨S, fs, h1, h2, ⟨h3, h4, h5⟩, h6⟩ := h
  exact ⟨S, fs, h1, h2.below hb, ⟨h3.trans (hb.mono h3.size), h4.below hb, h5⟩, h6.below hb⟩
theorem SX.since (h : SX w0 w p room l bad A xs) : Below w0.heap.size w0 w := by obtain ⟨_, _, _, _, ⟨h3, _⟩, _⟩ := h; exact h3
theorem SX.lies (h : SX w0 w p room l bad A xs) : Lies .u8 w w.heap.size A xs := by
  obtain ⟨S, fs, _, _, _, h4⟩ := h
  exact h4.lies
/-- What a call leaves. -/
theorem SX.of_left {w' : World} {l' : List FileM} {bad' : List Int} {S : Nat → Prop} {fs fs' : List FileP} (hV : VStore w0.heap.size S w p room fs bad) (h : Below w0.heap.size w0 w ∧ Tabs w ∧ 2 ≤ w0.heap.size ∧ l.length < 1000000000 ∧ usedM l ≤ 549755813888 ∧ bad.length < 1000000 ∧ 0 ≤ room ∧ room ≤ 9223372036854775807)
    (he : filesP fs' = l') (hL : Left w0.heap.size S w w' p room ((usedM (filesP fs') : Nat) : Int) fs' bad') (h1 : l'.length < 1000000000) (h2 : usedM l' ≤ 549755813888) (h3 : bad'.length < 1000000) {B : Option Addr} {ys : List Int} (hy : LiesOff (Grow S w w') w' B ys) : SX w0 w' p room l' bad' B ys := by
  obtain ⟨k1, k2, k3, _, _, _, k7, k8⟩ := h
  have hb := hL.below_base hV.within
  exact ⟨_, fs', he, hL.store, ⟨k1.trans hb, k2.past hb k3, k3, h1, h2, h3, k7, k8⟩, hy⟩
theorem sx_new (w0 w : World) (hb : Below w0.heap.size w0 w) (hT : Tabs w0) (room : Int) (h0 : 0 ≤ room) (h1 : room ≤ 9223372036854775807) :
    Calls Tryd.prog 8 #[.int .i64 room] w fun e w' => e = .returned (.pointer (some ⟨w.heap.size, 0, none⟩)) ∧ SX w0 w' w.heap.size room [] [] none [] := by
  refine (vsnew_any room w).mono ?_
  rintro e w' ⟨rfl, rfl⟩
  rw [Int.max_eq_left h0]
  have hb2 : Below w0.heap.size w0 (w.alloc (.cells (storeCells room 0 none (.slice none 0 0)) 48)) := hb.alloc hb.size _
  exact ⟨rfl, _, [], rfl, vsnew_store w0.heap.size w room hb.size, ⟨hb2, hT.below hb2, hT.two, by simp, by simp [usedM], by simp, h0, h1⟩, LiesOff.none⟩
theorem tail_lt {k : Nat} (h : bad.length < k) : bad.tail.length < k := by rw [List.length_tail]; omega
/-- Fail of a number that the walk has laid in the newest block. -/
theorem sx_fail1 (h : SX w0 w p room l bad A xs) (k : Int) (hk : bad.length < 999999) :
    Calls Tryd.prog 12 #[.pointer (some ⟨p, 0, none⟩), .slice (some ⟨w.heap.size, 0, none⟩) 1 1] (w.alloc (.cells #[.int .i64 k] 3)) fun e w' => e = .returned (.tuple #[]) ∧ SX w0 w' p room l (bad ++ [k]) A xs := by
  have hb : Below w.heap.size w (w.alloc (.cells #[.int .i64 k] 3)) := (Below.refl _ _).alloc (Nat.le_refl _) _
  obtain ⟨S, fs, rfl, hV, hh, hl⟩ := h.below hb
  refine (vfail_any hV (some ⟨w.heap.size, 0, none⟩) [k] 1 (w.heap.size + 1) (fun _ => ⟨w.heap.size, 0, rfl, by omega, fun j hj => ?_⟩) (by simp) (by simp) (by simp; omega)).mono ?_
  · obtain rfl : j = 0 := by simp at hj; omega
    rw [cell_new_marked]
    rfl
  · rintro e w' ⟨rfl, hL⟩
    exact ⟨rfl, SX.of_left hV hh rfl hL hh.2.2.2.1 hh.2.2.2.2.1 (by simp; omega) (hl.keep hL.keep)⟩
theorem sx_put (h : SX w0 w p room l bad A xs) (n : ByteArray) (B : Option Addr) (ys : List Int) (c : Nat) (hn : n.size ≤ 281474976710656) (hl : Lies .u8 w w0.heap.size B ys) (hc : ys.length ≤ c) (hB : B = none → c = 0) (hy : IsBytes ys) (hyl : ys.length ≤ 549755813888)
    (h1 : (faulty (bad.headD 0) l (putM room l n ys)).1.length < 1000000000) (h2 : usedM (faulty (bad.headD 0) l (putM room l n ys)).1 ≤ 549755813888) :
    Calls Tryd.prog 10 #[.pointer (some ⟨p, 0, none⟩), .string n, .slice B ys.length c] w fun e w' => e = .returned (.int .i64 (faulty (bad.headD 0) l (putM room l n ys)).2) ∧ SX w0 w' p room (faulty (bad.headD 0) l (putM room l n ys)).1 bad.tail A xs := by
  obtain ⟨S, fs, rfl, hV, hh, hla⟩ := h
  have hh' := hh
  obtain ⟨k1, k2, k3, k4, k5, k6, k7, k8⟩ := hh
  refine (vPut_any hV n B ys c hn k2 k3 k7 k8 (by omega) hy (hl.off (Nat.le_refl _) hV.within) hB hc hyl (by rw [← filesP_length]; exact k4)).mono ?_
  rintro e w' ⟨rfl, fs', he, hL⟩
  exact ⟨rfl, SX.of_left hV hh' he hL h1 h2 (tail_lt k6) (hla.keep hL.keep)⟩
/-- Put of bytes that the walk has laid in the newest block. -/
theorem sx_put_new (h : SX w0 w p room l bad A xs) (n : ByteArray) (ys : List Int) (k c : Nat) (hk : ys.length = k) (fr : Nat × Nat) (o : Obj) (ho : o = .cells (ys.map (Value.int .u8)).toArray 5 fr) (hc : k ≤ c) (hn : n.size ≤ 281474976710656) (hy : IsBytes ys) (hyl : ys.length ≤ 549755813888)
    (h1 : (faulty (bad.headD 0) l (putM room l n ys)).1.length < 1000000000) (h2 : usedM (faulty (bad.headD 0) l (putM room l n ys)).1 ≤ 549755813888) :
    Calls Tryd.prog 10 #[.pointer (some ⟨p, 0, none⟩), .string n, .slice (some ⟨w.heap.size, 0, none⟩) k c] (w.alloc o) fun e w' => e = .returned (.int .i64 (faulty (bad.headD 0) l (putM room l n ys)).2) ∧ SX w0 w' p room (faulty (bad.headD 0) l (putM room l n ys)).1 bad.tail A xs := by
  subst hk ho
  have hb : Below w.heap.size w (w.alloc (.cells (ys.map (Value.int .u8)).toArray 5 fr)) := (Below.refl _ _).alloc (Nat.le_refl _) _
  obtain ⟨S, fs, rfl, hV0, hh0, hl0⟩ := h
  have hV := hV0.below hb
  have hla := hl0.below hb
  have hh' : Below w0.heap.size w0 (w.alloc (.cells (ys.map (Value.int .u8)).toArray 5 fr)) ∧ Tabs (w.alloc (.cells (ys.map (Value.int .u8)).toArray 5 fr)) ∧ 2 ≤ w0.heap.size ∧ (filesP fs).length < 1000000000 ∧ usedM (filesP fs) ≤ 549755813888 ∧ bad.length < 1000000 ∧ 0 ≤ room ∧ room ≤ 9223372036854775807 :=
    ⟨hh0.1.trans (hb.mono hh0.1.size), hh0.2.1.below hb, hh0.2.2⟩
  have hh := hh'
  obtain ⟨k1, k2, k3, k4, k5, k6, k7, k8⟩ := hh
  refine (vPut_any hV n (some ⟨w.heap.size, 0, none⟩) ys c hn k2 k3 k7 k8 (by omega) hy (fun _ => ⟨w.heap.size, 0, rfl, by simp, fun hs => by have := (hV0.within.2 _ hs).2; omega, fun j hj => ?_⟩) (by simp) hc hyl (by rw [← filesP_length]; exact k4)).mono ?_
  · rw [Nat.zero_add, cell_new_marked]
    simp [hj]
  · rintro e w' ⟨rfl, fs', he, hL⟩
    exact ⟨rfl, SX.of_left hV hh' he hL h1 h2 (tail_lt k6) (hla.keep hL.keep)⟩
theorem sx_delete (h : SX w0 w p room l bad A xs) (n : ByteArray) (hn : n.size ≤ maxLen)
    (h1 : (faulty (bad.headD 0) l (removeM l n)).1.length < 1000000000) (h2 : usedM (faulty (bad.headD 0) l (removeM l n)).1 ≤ 549755813888) :
    Calls Tryd.prog 14 #[.pointer (some ⟨p, 0, none⟩), .string n] w fun e w' => e = .returned (.int .i64 (faulty (bad.headD 0) l (removeM l n)).2) ∧ SX w0 w' p room (faulty (bad.headD 0) l (removeM l n)).1 bad.tail A xs := by
  obtain ⟨S, fs, rfl, hV, hh, hla⟩ := h
  have hh' := hh
  obtain ⟨k1, k2, k3, k4, k5, k6, k7, k8⟩ := hh
  refine (vDelete_any hV n hn k2 k3 (by omega)).mono ?_
  rintro e w' ⟨rfl, fs', he, hL⟩
  exact ⟨rfl, SX.of_left hV hh' he hL h1 h2 (tail_lt k6) (hla.keep hL.keep)⟩
/-- Get: the bytes that were there beside the store stay, and those that are answered lie there. -/
theorem sx_get (h : SX w0 w p room l bad A xs) (n : ByteArray) (hn : n.size ≤ maxLen) :
    Calls Tryd.prog 13 #[.pointer (some ⟨p, 0, none⟩), .string n] w fun e w' => ∃ B c, e = .returned (.tuple #[.slice B (faultyG (bad.headD 0) (getM l n)).1.b.length c, .int .i64 (faultyG (bad.headD 0) (getM l n)).2]) ∧ (faultyG (bad.headD 0) (getM l n)).1.b.length ≤ c ∧ c ≤ maxLen ∧ SX w0 w' p room l bad.tail A xs ∧ SX w0 w' p room l bad.tail B (faultyG (bad.headD 0) (getM l n)).1.b := by
  obtain ⟨S, fs, rfl, hV, hh, hla⟩ := h
  have hh' := hh
  obtain ⟨k1, k2, k3, k4, k5, k6, k7, k8⟩ := hh
  refine (vGet_any hV n hn k2 k3 fun x hx => Nat.le_trans (used_ge hx) (by omega)).mono ?_
  rintro e w' ⟨v, w1, rfl, hL, ho, hb⟩
  obtain ⟨B, c, rfl, hc, hm, hl⟩ := ho.parts
  have h0 : SX w0 w1 p room (filesP fs) bad.tail A xs := SX.of_left hV hh' rfl hL k4 k5 (tail_lt k6) (hla.keep hL.keep)
  have hb0 := hL.below_base hV.within
  have hV1 := hL.store.below hb
  refine ⟨B, c, rfl, hc, hm, h0.below hb, _, fs, rfl, hV1, ⟨(k1.trans hb0).trans (hb.mono (by have := k1.size; have := hL.keep.size; omega)), (k2.past hb0 k3).below hb, k3, k4, k5, tail_lt k6, k7, k8⟩, fun hx => ?_⟩
  obtain ⟨g, c', hv, hg1, hg2, _⟩ := ho.spot (List.length_pos_iff.2 hx)
  obtain ⟨b, off, hA, hbl, hcell⟩ := hl hx
  injection hv with hv1
  rw [hv1] at hA
  have hA := Option.some.inj hA
  injection hA with hA1 hA2
  subst hA1 hA2
  exact ⟨g, 0, hv1, hg2, fun hs => by have := (hL.store.within.2 g hs).2; omega, hcell⟩
end
end Go.Proofs.YtfbdmagonjjjoaaDoor
