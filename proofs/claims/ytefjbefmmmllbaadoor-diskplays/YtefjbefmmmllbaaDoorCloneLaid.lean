/- The library's own strings.Clone at this program, by the contract that lies proved; and bytes.Clone. -/
import Derived.Test.YtefjbefmmmllbaaDoorBytes
import Derived.Test.YtefjbefmmmllbaaDoorProg
import Derived.Shelf.Strconv.Clone
import Derived.Lib.SliceRun
namespace Go.Proofs.YtefjbefmmmllbaaDoor
open Go.Shelf Go.RowKit Go.Proofs

def cloneL_ren : Ren :=
  ⟨fun | 316 => 49 | n => n, fun | 0 => 0 | 3 => 3 | 4 => 4 | 5 => 5 | 9 => 9 | 37 => 31 | 127 => 93 | n => n, fun n => n⟩
theorem cloneL : LaysM.n316 Tryd.prog cloneL_ren where
  mixed := by kernel_rfl
  f316 := Tryd.func49.trans (congrArg some (by kernel_rfl))
  t0 := Tryd.underlying0
  a0 := Tryd.isAgg0
  z0 := Tryd.sizeOf0
  v0 := Tryd.zeroValue0
  t3 := Tryd.underlying3
  a3 := Tryd.isAgg3
  z3 := Tryd.sizeOf3
  v3 := Tryd.zeroValue3
  t4 := Tryd.underlying4
  a4 := Tryd.isAgg4
  z4 := Tryd.sizeOf4
  v4 := Tryd.zeroValue4
  t9 := Tryd.underlying9
  a9 := Tryd.isAgg9
  z9 := Tryd.sizeOf9
  v9 := Tryd.zeroValue9
  t37 := Tryd.underlying31
  a37 := Tryd.isAgg31
  z37 := Tryd.sizeOf31
  v37 := Tryd.zeroValue31
  t127 := Tryd.underlying93
  a127 := Tryd.isAgg93
  z127 := Tryd.sizeOf93
  v127 := Tryd.zeroValue93
  t5 := Tryd.underlying5
  a5 := Tryd.isAgg5
  z5 := Tryd.sizeOf5
  v5 := Tryd.zeroValue5
  i0 := by kernel_rfl
  i3 := by kernel_rfl
  i4 := by kernel_rfl
  i5 := by kernel_rfl
  i9 := by kernel_rfl
  i37 := by kernel_rfl
  i127 := by kernel_rfl
theorem slite_any (s : ByteArray) (w : World) (h : s.size ≤ 281474976710656) : Calls Tryd.prog 49 #[.string s] w fun e w' => e = .returned (.string s) ∧ Below w.heap.size w w' :=
  Any.stringslite_Clone cloneL s w h
set_option maxHeartbeats 400000 in
theorem sclone_any (s : ByteArray) (w : World) (h : s.size ≤ 281474976710656) : Calls Tryd.prog 38 #[.string s] w fun e w' => e = .returned (.string s) ∧ Below w.heap.size w w' := by
  have hc := slite_any s w h
  go_enter Tryd.func38, Tryd.ntmps38
  go_wp2_with fail
  refine hc.mono ?_
  rintro e w1 ⟨rfl, hb⟩
  go_wp2
  go_ret
  exact ⟨rfl, hb⟩

/-- A new row that holds nothing. -/
theorem empty_own (w : World) : Own .u8 5 (w.alloc (.cells #[] 5)) w.heap.size (.slice (some ⟨w.heap.size, 0, none⟩) 0 0) [] :=
  Own.of_row (cur := []) (by show (w.heap.push _)[w.heap.size]? = _; simp) (Nat.le_refl _) (by simp) (by simp [maxLen]) rfl rfl
set_option maxHeartbeats 400000 in
theorem bclone_some (x : Addr) (xs : List Int) (c : Nat) (w : World) (hl : Lies .u8 w w.heap.size (some x) xs) (hc : xs.length ≤ c) (hb : xs.length ≤ 549755813888) :
    Calls Tryd.prog 36 #[.slice (some x) xs.length c] w (NewBytes w xs) := by
  obtain ⟨i0, hi0, hz0, hz1, hz2⟩ := info_parts byte_info
  have he : ∀ w : World, (binOp .eql 31 (.slice (some x) xs.length c) (.slice none 0 0)).run Tryd.prog w = .ok (.bool false) w := fun W => Lib.run_eql_slice_nil W _ 5 (some x) xs.length c 0 0 Tryd.underlying31
  go_enter Tryd.func36, Tryd.ntmps36
  go_wp2_with (at_builtin; refine wpList_append_ints rfl (.tmp 5) (.tmp 6) 31 rfl w.heap.size 5 .u8 i0 1 Tryd.underlying31 hi0 hz0 hz1 hz2 (by decide) (.slice (some ⟨w.heap.size, 0, none⟩) 0 0) [] rfl (empty_own w) w.heap.size (some x) xs.length c xs rfl rfl hc (hl.alloc (Nat.le_refl _) _) (by simp; omega) (by simp) (by simp) ?_; intro v' w2 hown2 hgr2 _)
  rw [List.nil_append] at hown2
  have hb2 := (empty_own w).grown_below hgr2 (by simp)
  go_ret
  exact ⟨v', rfl, hown2, ((Below.refl _ _).alloc (Nat.le_refl _) _).trans hb2⟩
set_option maxHeartbeats 400000 in
theorem bclone_nil (w : World) : Calls Tryd.prog 36 #[.slice none 0 0] w (NewBytes w []) := by
  have he : ∀ w : World, (binOp .eql 31 (.slice none 0 0) (.slice none 0 0)).run Tryd.prog w = .ok (.bool true) w := fun W => Lib.run_eql_slice_nil W _ 5 none 0 0 0 0 Tryd.underlying31
  go_enter Tryd.func36, Tryd.ntmps36
  go_wp2
  go_ret
  exact ⟨_, rfl, Own.nil, Below.refl _ _⟩
theorem bclone_any (v : Value) (xs : List Int) (base : Nat) (w : World) (h : Own .u8 5 w base v xs) (hb : xs.length ≤ 549755813888) : Calls Tryd.prog 36 #[v] w (NewBytes w xs) := by
  obtain ⟨A, c, rfl, h1, h2, h3⟩ := h.parts
  rcases A with _ | ad
  · have h4 := h.2
    rcases h4 with ⟨e, h0⟩ | ⟨g, cap, cur, e, _⟩
    · obtain rfl : xs = [] := List.eq_nil_of_length_eq_zero h0
      rw [e]
      exact bclone_nil w
    · cases e
  · exact bclone_some ad xs c w h3 h1 hb
end Go.Proofs.YtefjbefmmmllbaaDoor
