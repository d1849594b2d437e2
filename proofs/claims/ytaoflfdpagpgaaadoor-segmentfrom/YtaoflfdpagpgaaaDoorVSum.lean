/- Contracts of the program's own putSum and getSum, and of the library's Clone. -/
import Derived.Test.YtaoflfdpagpgaaaDoorBytes
import Derived.Test.YtaoflfdpagpgaaaDoorFrameNum
import Derived.Test.YtaoflfdpagpgaaaDoorVCrc
import Derived.Lib.EndianBits
namespace Go.Proofs.YtaoflfdpagpgaaaDoor
open Go.RowKit

section
variable {P : Program} {w : World} {ops : Array Oper} {rest : List Oper} {o : Oper} {a : Act} {Q : Exit → Act → World → Prop}
/-- append of integers that the walk has laid in the newest block. -/
theorem wpList_append_new (hgd : o.guard = none) (s x : Operand) (t : TypeId) (ho : o.op = .call { callee := .builtin .append, args := #[s, x], argTypes := #[t, t] })
    (base : Nat) (e : TypeId) (k : IntKind) (i : TypeInfo) (bytes : Nat) (ht : P.underlying t = some (.slice e)) (hi : P.info? e = some i) (hz : i.zero = some (.int k 0))
    (hsize : i.size = 1) (hby : i.bytes = bytes) (hbs : bytes ≤ 64)
    (v : Value) (xs : List Int) (hs : a.eval s = v) (W : World) (ys : List Int) (m : Nat) (hm : ys.length = m) (hw : w = W.alloc (.cells (ys.map (Value.int k)).toArray e)) (hown : Own k e W base v xs) (hx : a.eval x = .slice (some ⟨W.heap.size, 0, none⟩) m m)
    (hb : xs.length + ys.length ≤ 1099511627776) (hbase : base ≤ W.heap.size)
    (h : ∀ v' w', Own k e w' base v' (xs ++ ys) → Below base W w' → wpList P ops Q rest (a.put o.dst v') w') : wpList P ops Q (o :: rest) a w := by
  subst hw
  subst hm
  refine wpList_append_ints hgd s x t ho base e k i bytes ht hi hz hsize hby hbs v xs hs (hown.alloc _) (W.heap.size + 1) (some ⟨W.heap.size, 0, none⟩) ys.length ys.length ys hx rfl (Nat.le_refl _) ?_ hb (by simp; omega) (by simp) ?_
  · intro _
    refine ⟨W.heap.size, 0, rfl, by omega, fun j hj => ?_⟩
    have h1 : (W.alloc (.cells (ys.map (Value.int k)).toArray e)).heap[W.heap.size]? = some (.cells (ys.map (Value.int k)).toArray e) := by
      show (W.heap.push _)[W.heap.size]? = _
      simp
    unfold World.cell?
    rw [h1]
    simp [hj]
  · intro v' w' h1 h2 _
    have hb2 := (hown.alloc (.cells (ys.map (Value.int k)).toArray e)).grown_below h2 (by simp; omega)
    exact h v' w' h1 (((Below.refl _ _).alloc hbase _).trans hb2)
end

set_option maxHeartbeats 400000 in
theorem putsum_any (v : Value) (xs : List Int) (n base : Nat) (w : World) (hn : n < 4294967296) (hown : Own .u8 5 w base v xs) (hbase : base ≤ w.heap.size) (hb : xs.length ≤ 549755813888) :
    Calls Tryd.prog 29 #[v, .int .u32 (n : Int)] w fun e w' => ∃ v', e = .returned v' ∧ Own .u8 5 w' base v' (xs ++ sumL n) ∧ Below base w w' := by
  obtain ⟨i0, hi0, hz0, hz1, hz2⟩ := info_parts byte_info
  go_enter Tryd.func29, Tryd.ntmps29
  have hS : sumL n = [(n : Int) / 16777216, (n : Int) / 65536 % 256, (n : Int) / 256 % 256, (n : Int) % 256] := by
    simp only [sumL, List.cons.injEq, and_true]
    omega
  rw [hS]
  clear hS
  go_wp2_with (at_builtin; refine wpList_append_new rfl (.tmp 5) (.tmp 17) 25 rfl base 5 .u8 i0 1 Tryd.underlying25 hi0 hz0 hz1 hz2 (by decide) v xs rfl w [(n : Int) / 16777216, (n : Int) / 65536 % 256, (n : Int) / 256 % 256, (n : Int) % 256] 4 rfl rfl hown rfl (by simp; omega) hbase ?_; intro v' w2 hown2 hbel2)
  go_ret
  exact ⟨v', rfl, hown2, hbel2⟩

/-- One byte more at the low end, in the walk's own words. -/
theorem or_byte (s c : Int) (h0 : 0 ≤ s) (h1 : s < 16777216) (c0 : 0 ≤ c) (c1 : c ≤ 255) : bits .or .u32 (s * 256) c = s * 256 + c := by
  rw [u32_or _ _ (by omega) (by omega) (by omega) (by omega)]
  have e : (s * 256).toNat = 2 ^ 8 * s.toNat := by omega
  rw [e, ← Nat.two_pow_add_eq_or_of_lt (show c.toNat < 2 ^ 8 by omega) s.toNat]
  omega
theorem sumOf_bounds (xs : List Int) (h : IsBytes xs) (k : Nat) (hk : k ≤ xs.length) : 0 ≤ sumOf (xs.take k) ∧ sumOf (xs.take k) < 256 ^ k := by
  induction k with
  | zero => simp [sumOf]
  | succ k ih =>
    obtain ⟨h0, h1⟩ := ih (by omega)
    rw [List.take_succ_eq_append_getElem (by omega), sumOf_snoc, Int.pow_succ]
    have := h.at_ (show k < xs.length by omega)
    omega

set_option maxHeartbeats 400000 in
theorem getsum_any (A : Option Addr) (xs : List Int) (c : Nat) (w : World) (hl : Lies .u8 w w.heap.size A xs) (hby : IsBytes xs) (hx : xs.length = 4) (hc : 4 ≤ c) :
    Calls Tryd.prog 46 #[.slice A xs.length c] w fun e w' => e = .returned (.int .u32 (sumOf xs)) ∧ w = w' := by
  obtain ⟨b, off, rfl, hbl, hc0⟩ := hl (by rintro rfl; simp at hx)
  have hcells : ∀ j (h : j < 4), w.cell? ⟨b, off + j, none⟩ = some (.int .u8 (xs[j]'(by omega))) := fun j h => hc0 j (by omega)
  clear hc0
  rw [hx]
  go_enter Tryd.func46, Tryd.ntmps46
  go_wp2_with fail
  go_loop [3, 5, 9] (fun sv _ iv => ∃ k : Nat, sv = .int .u32 (sumOf (xs.take k)) ∧ iv = .int .i64 k ∧ k ≤ 4)
    (fun _ _ iv => 4 - (intOf iv).toNat)
  case atStart => exact ⟨0, rfl, rfl, by omega⟩
  case round =>
    obtain ⟨k, rfl, rfl, hk⟩ := hrel
    by_cases hlt : k < 4
    · have hcell := hcells k hlt
      have hq := hby.at_ (show k < xs.length by omega)
      have hsn : sumOf (xs.take (k + 1)) = sumOf (xs.take k) * 256 + xs[k] := by rw [List.take_succ_eq_append_getElem (by omega), sumOf_snoc]
      obtain ⟨s0, s1⟩ := sumOf_bounds xs hby k (by omega)
      have s2 : sumOf (xs.take k) < 16777216 := by
        have : (256 : Int) ^ k ≤ 256 ^ 3 := by
          have := Nat.pow_le_pow_right (show 0 < 256 by decide) (show k ≤ 3 by omega)
          have h2 : ((256 ^ k : Nat) : Int) ≤ ((256 ^ 3 : Nat) : Int) := by omega
          rwa [Int.natCast_pow, Int.natCast_pow] at h2
        rw [show (256 : Int) ^ 3 = 16777216 from by decide] at this
        omega
      generalize xs[k]'(by omega) = q at hcell hq hsn
      generalize sumOf (xs.take k) = s at *
      have hor := or_byte s q s0 s2 hq.1 hq.2
      obtain ⟨q0, q1⟩ := hq
      have HSN := Lib.hid hsn
      clear hsn s1 hcells
      go_wp2
      go_round
      case rel => exact ⟨k + 1, by rw [HSN.out], by go_num, by omega⟩
      case measure => simp [intOf]; omega
    · have hk4 : k = xs.length := by omega
      have HF := Lib.hid (show xs.take k = xs by rw [hk4, List.take_length])
      clear hk4
      go_wp2_with fail
      go_ret
      exact ⟨by rw [HF.out]; rfl, rfl⟩

/-- A new row that holds nothing. -/
theorem empty_own (w : World) : Own .u8 5 (w.alloc (.cells #[] 5)) w.heap.size (.slice (some ⟨w.heap.size, 0, none⟩) 0 0) [] :=
  Own.of_row (cur := []) (by show (w.heap.push _)[w.heap.size]? = _; simp) (Nat.le_refl _) (by simp) (by simp [maxLen]) rfl rfl
set_option maxHeartbeats 400000 in
theorem clone_any (x : Addr) (xs : List Int) (c : Nat) (w : World) (hl : Lies .u8 w w.heap.size (some x) xs) (hc : xs.length ≤ c) (hb : xs.length ≤ 549755813888) :
    Calls Tryd.prog 47 #[.slice (some x) xs.length c] w (NewBytes w xs) := by
  obtain ⟨i0, hi0, hz0, hz1, hz2⟩ := info_parts byte_info
  have he : ∀ w : World, (binOp .eql 25 (.slice (some x) xs.length c) (.slice none 0 0)).run Tryd.prog w = .ok (.bool false) w := fun _ => rfl
  go_enter Tryd.func47, Tryd.ntmps47
  go_wp2_with (at_builtin; refine wpList_append_ints rfl (.tmp 5) (.tmp 6) 25 rfl w.heap.size 5 .u8 i0 1 Tryd.underlying25 hi0 hz0 hz1 hz2 (by decide) (.slice (some ⟨w.heap.size, 0, none⟩) 0 0) [] rfl (empty_own w) w.heap.size (some x) xs.length c xs rfl rfl hc (hl.alloc (Nat.le_refl _) _) (by simp; omega) (by simp) (by simp) ?_; intro v' w2 hown2 hgr2 _)
  rw [List.nil_append] at hown2
  have hb2 := (empty_own w).grown_below hgr2 (by simp)
  go_ret
  exact ⟨v', rfl, hown2, ((Below.refl _ _).alloc (Nat.le_refl _) _).trans hb2⟩
end Go.Proofs.YtaoflfdpagpgaaaDoor
