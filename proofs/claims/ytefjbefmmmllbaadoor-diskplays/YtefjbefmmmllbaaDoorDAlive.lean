/- The example of the document holds: a contract of the statements' own 'alive'. -/
import Derived.Test.YtefjbefmmmllbaaDoorDLaw
import Derived.Test.YtefjbefmmmllbaaDoorRecNum
namespace Go.Proofs.YtefjbefmmmllbaaDoor
open Go.RowKit Go.Maps

theorem name_a : validS ⟨#[97]⟩ = true := by decide +kernel
theorem cell_new_marked (w : World) (C : Array Value) (e : TypeId) (fr : Nat × Nat) (j : Nat) : (w.alloc (.cells C e fr)).cell? ⟨w.heap.size, j, none⟩ = C[j]? := by
  have h : (w.alloc (.cells C e fr)).heap[w.heap.size]? = some (.cells C e fr) := by
    show (w.heap.push (.cells C e fr))[w.heap.size]? = _
    simp
  unfold World.cell?
  rw [h]
  rfl
/-- Append of bytes that the walk has laid in the newest block. -/
theorem dw_append_new {w0 w : World} {p : Nat} {room : Int} {l : List FileM} (h : DW w0 w p room l) (n : ByteArray) (ys : List Int) (k c : Nat) (hk : ys.length = k) (fr : Nat × Nat) (o : Obj) (ho : o = .cells (ys.map (Value.int .u8)).toArray 5 fr) (hc : k ≤ c) (hn : n.size ≤ 281474976710656) (hy : IsBytes ys) (hyl : ys.length ≤ 549755813888)
    (h1 : (appendM room l n ys).1.length < 1000000000) (h2 : usedM (appendM room l n ys).1 ≤ 549755813888) :
    Calls Tryd.prog 8 #[.pointer (some ⟨p, 0, none⟩), .string n, .slice (some ⟨w.heap.size, 0, none⟩) k c] (w.alloc o) fun e w' => e = .returned (.int .i64 (appendM room l n ys).2) ∧ DW w0 w' p room (appendM room l n ys).1 := by
  subst hk ho
  have hb : Below w.heap.size w (w.alloc (.cells (ys.map (Value.int .u8)).toArray 5 fr)) := (Below.refl _ _).alloc (Nat.le_refl _) _
  have h' := h.below hb
  obtain ⟨S, fs, rfl, hV, h3, h4, h5, h6, h7, h8, h9⟩ := h
  refine (vappend_any (hV.below hb) n (some ⟨w.heap.size, 0, none⟩) ys c hn (h4.below hb) h8 h9 h7 (by rw [← filesP_length]; exact h6) ?_ hc (by simp) hy hyl).mono ?_
  · intro _
    refine ⟨w.heap.size, 0, rfl, by simp, fun hs => by have := (hV.within.2 _ hs).2; omega, fun j hj => ?_⟩
    rw [Nat.zero_add, cell_new_marked]
    simp [hj]
  · rintro e w' ⟨rfl, fs', he, hL⟩
    exact ⟨rfl, h'.of_left (hV.within.more hb.size) he hL h1 h2⟩
theorem text_x : textOf [120] = ⟨#[120]⟩ := by decide +kernel
set_option maxHeartbeats 1600000 in
theorem alive_any (w : World) (hT : Tabs w) : Calls Tryd.prog 4 #[] w (Yes w) := by
  have kc := fun (w : World) (C : Array Value) (n c : Nat) => Lib.run_convert_bytes_const (P := Tryd.prog) w 31 5 C n c Tryd.underlying31 Tryd.underlying5
  have HN := Lib.hid (dw_new w w (Below.refl _ _) hT 10 (by omega) (by omega))
  have ea : appendM 10 [] ⟨#[97]⟩ [120, 121, 122] = ([⟨⟨#[97]⟩, [120, 121, 122], 3⟩], 0) := append_none name_a (by decide)
  have ec : crashM [⟨⟨#[97]⟩, [120, 121, 122], 3⟩] [1] = [⟨⟨#[97]⟩, [120], 0⟩] := by rw [crash_one 1 (by decide)]; rfl
  have eg : getM [⟨⟨#[97]⟩, [120], 0⟩] ⟨#[97]⟩ = (⟨⟨#[97]⟩, [120], 0⟩, 0) := get_self ⟨⟨#[97]⟩, [120], 0⟩ [] name_a
  have EA := Lib.hid ea
  have EC := Lib.hid ec
  have EG := Lib.hid eg
  clear hT ea ec eg
  go_enter Tryd.func4, Tryd.ntmps4
  go_wp2_with fail
  refine HN.out.mono ?_
  rintro e w1 ⟨rfl, d1⟩
  obtain ⟨p, hp⟩ : ∃ p, w.heap.size = p := ⟨_, rfl⟩
  rw [hp] at d1 ⊢
  have HP := Lib.hid hp
  have D1 := Lib.hid d1
  clear hp d1 HN
  go_wp2_with fail
  clear kc
  refine (dw_append_new D1.out ⟨#[97]⟩ [120, 121, 122] 3 3 rfl _ _ rfl (Nat.le_refl _) (by decide) (by intro c hc; simp at hc; omega) (by simp) (by rw [EA.out]; simp) (by rw [EA.out]; simp [usedM])).mono ?_
  rintro e w2 ⟨rfl, d2⟩
  rw [EA.out] at d2 ⊢
  have D2 := Lib.hid d2
  clear d2 D1
  go_wp2_with fail
  refine (dw_crash_new D2.out [1] 1 rfl _ rfl (by simp [maxLen]) (by rw [EC.out]; simp) (by rw [EC.out]; simp [usedM])).mono ?_
  rintro e w3 ⟨rfl, d3⟩
  rw [EC.out] at d3
  have D3 := Lib.hid d3
  clear d3 D2
  go_wp2_with fail
  refine (dw_read D3.out ⟨#[97]⟩ (by decide)).mono ?_
  rintro e w4 ⟨v, rfl, ho, hb, d4⟩
  rw [EG.out] at ho ⊢
  obtain ⟨A, c, rfl, h1, h2, hl⟩ := ho.parts
  have hcv : (convert 31 9 (.slice A 1 c)).run Tryd.prog w4 = .ok (.string ⟨#[120]⟩) w4 := by
    have := conv_bytes (P := Tryd.prog) (xs := [120]) 31 9 5 Tryd.underlying31 Tryd.underlying5 Tryd.underlying9 hl c
    rw [text_x] at this
    exact this
  have HB := Lib.hid d4.since
  clear d4 ho hl h1 h2 hb D3
  have HNUM := Lib.hid (num_any 0)
  go_wp2_with (first | (go_at_call 13; refine (HNUM.out _).mono ?_; rintro e w' ⟨rfl, rfl⟩))
  go_ret
  exact ⟨rfl, HB.out⟩

theorem text_append (xs ys : List Int) : textOf xs ++ textOf ys = textOf (xs ++ ys) := by
  apply name_eq
  rw [textOf_data, List.map_append, ← textOf_data xs, ← textOf_data ys]
  simp
theorem text_take (xs : List Int) (m : Nat) : (textOf xs).extract 0 m = textOf (xs.take m) := by
  apply name_eq
  rw [textOf_data, List.map_take, ← textOf_data xs]
  simp [ByteArray.data_extract]
theorem f_valid : validS ⟨#[102]⟩ = true := by decide +kernel

/-- A disk, and bytes that lie beside it. -/
def DX (w0 w : World) (p : Nat) (room : Int) (l : List FileM) (A : Option Addr) (xs : List Int) : Prop :=
  ∃ S fs, filesP fs = l ∧ VDisk w0.heap.size S w p room fs ∧ (Below w0.heap.size w0 w ∧ Tabs w ∧ 2 ≤ w0.heap.size ∧ l.length < 1000000000 ∧ usedM l ≤ 549755813888 ∧ 0 ≤ room ∧ room ≤ 9223372036854775807) ∧ LiesOff S w A xs
section
variable {w0 w : World} {p : Nat} {room : Int} {l : List FileM} {A : Option Addr} {xs : List Int}
theorem DX.dw (h : DX w0 w p room l A xs) : DW w0 w p room l := by
  obtain ⟨S, fs, h1, h2, h3, _⟩ := h
  exact ⟨S, fs, h1, h2, h3⟩
theorem DX.lies (h : DX w0 w p room l A xs) : Lies .u8 w w.heap.size A xs := by
  obtain ⟨S, fs, _, _, _, h4⟩ := h
  exact h4.lies
theorem LiesOff.below {S : Nat → Prop} {w' : World} (h : LiesOff S w A xs) (hb : Below w.heap.size w w') : LiesOff S w' A xs :=
  (h.keep (Keep.of_below (S := S) hb)).mono fun _ _ h => .inl h
theorem DX.below {w' : World} (h : DX w0 w p room l A xs) (hb : Below w.heap.size w w') : DX w0 w' p room l A xs := by
  obtain ⟨S, fs, h1, h2, ⟨h3, h4, h5⟩, h6⟩ := h
  exact ⟨S, fs, h1, h2.below hb, ⟨h3.trans (hb.mono h3.size), h4.below hb, h5⟩, h6.below hb⟩
theorem dx_read (h : DW w0 w p room l) (n : ByteArray) (hn : n.size ≤ maxLen) :
    Calls Tryd.prog 12 #[.pointer (some ⟨p, 0, none⟩), .string n] w fun e w' => ∃ A c, e = .returned (.tuple #[.slice A (getM l n).1.b.length c, .int .i64 (getM l n).2]) ∧ (getM l n).1.b.length ≤ c ∧ c ≤ maxLen ∧ DX w0 w' p room l A (getM l n).1.b := by
  have h' := h
  obtain ⟨S, fs, rfl, hV, h3, h4, h5, h6, h7, h8, h9⟩ := h
  refine (vread_any hV n hn h4 fun x hx => Nat.le_trans (used_ge hx) (by omega)).mono ?_
  rintro e w' ⟨v, rfl, ho, hb⟩
  obtain ⟨A, c, rfl, hc, hm, hl⟩ := ho.parts
  refine ⟨A, c, rfl, hc, hm, S, fs, rfl, hV.below hb, ⟨h3.trans (hb.mono h3.size), h4.below hb, h5, h6, h7, h8, h9⟩, fun hx => ?_⟩
  obtain ⟨g, c', hv, hg1, hg2, _⟩ := ho.spot (List.length_pos_iff.2 hx)
  obtain ⟨b, off, hA, hbl, hcell⟩ := hl hx
  injection hv with hv1
  rw [hv1] at hA
  injection hA with hA
  injection hA with hA1 hA2
  subst hA1 hA2
  exact ⟨g, 0, hv1, hg2, fun hs => by have := (hV.within.2 g hs).2; omega, hcell⟩
theorem dx_crash_new (h : DX w0 w p room l A xs) (keep : List Int) (k : Nat) (hk : keep.length = k) (o : Obj) (ho : o = .cells (keep.map (Value.int .i64)).toArray 3) (hcm : k ≤ maxLen) (h1 : (crashM l keep).length < 1000000000) (h2 : usedM (crashM l keep) ≤ 549755813888) :
    Calls Tryd.prog 11 #[.pointer (some ⟨p, 0, none⟩), .slice (some ⟨w.heap.size, 0, none⟩) k k] (w.alloc o) fun e w' => e = .returned (.tuple #[]) ∧ DX w0 w' p room (crashM l keep) A xs := by
  subst hk ho
  have hb : Below w.heap.size w (w.alloc (.cells (keep.map (Value.int .i64)).toArray 3)) := (Below.refl _ _).alloc (Nat.le_refl _) _
  have h' := h.below hb
  obtain ⟨S, fs, rfl, hV, ⟨h3, h4, h5, h6, h7, h8, h9⟩, hL0⟩ := h
  refine (vcrash_any (hV.below hb) (some ⟨w.heap.size, 0, none⟩) keep keep.length ?_ (Nat.le_refl _) hcm (by rw [← filesP_length]; exact h6) (by omega)).mono ?_
  · intro _
    refine ⟨w.heap.size, 0, rfl, by simp, fun hs => by have := (hV.within.2 _ hs).2; omega, fun j hj => ?_⟩
    rw [Nat.zero_add, cell_new_marked]
    simp [hj]
  · rintro e w' ⟨rfl, fs', he, hL⟩
    have hL1 := hL0.below hb
    have hb3 := h3.trans (hb.mono h3.size)
    have hb4 := hL.below_base (hV.within.more hb.size)
    exact ⟨rfl, _, fs', he, hL.disk, ⟨hb3.trans hb4, (h4.below hb).past hb4 h5, h5, h1, h2, h8, h9⟩, hL1.keep hL.keep⟩
end
end Go.Proofs.YtefjbefmmmllbaaDoor
