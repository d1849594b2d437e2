/- Contracts of the program's own putSum and getSum, and of the library's Clone. · A contract of the program's frame.Put. · A contract of the program's frame.Get. -/
import Derived.Test.YtffmfgbjlijpeaaDoorBytes
import Derived.Test.YtffmfgbjlijpeaaDoorNums
import Derived.Test.YtffmfgbjlijpeaaDoorVCrc
import Derived.Lib.EndianBits
import Derived.Test.YtffmfgbjlijpeaaDoorV1
import Derived.Deep.QuietTactic
import Derived.BigQuiet
namespace Go.Proofs.YtffmfgbjlijpeaaDoor
open Go.RowKit

section
variable {P : Program} {w : World} {ops : Array Oper} {rest : List Oper} {o : Oper} {a : Act} {Q : Exit → Act → World → Prop}
/-- append of integers that the walk has laid in the newest block. -/
theorem wpList_append_new (hgd : o.guard = none) (s x : Operand) (t : TypeId) (ho : o.op = .call { callee := .builtin .append, args := #[s, x], argTypes := #[t, t] })
    (base : Nat) (e : TypeId) (k : IntKind) (i : TypeInfo) (bytes : Nat) (ht : P.underlying t = some (.slice e)) (hi : P.info? e = some i) (hz : i.zero = some (.int k 0))
    (hsize : i.size = 1) (hby : i.bytes = bytes) (hbs : bytes ≤ 64)
    (v : Value) (xs : List Int) (hs : a.eval s = v) (W : World) (ys : List Int) (m : Nat) (hm : ys.length = m) (hw : w = W.alloc (.cells (ys.map (Value.int k)).toArray e)) (hown : Own k e W base v xs) (hx : a.eval x = .slice (some ⟨W.heap.size, 0, none⟩) m m)
    (hb : xs.length + ys.length ≤ 1099511627776) (hbase : base ≤ W.heap.size)
    (h : ∀ v' w', Own k e w' base v' (xs ++ ys) → Below base W w' → wpList P ops Q rest (a.put o.dst v') w') : wpList P ops Q (o :: rest) a w := by
  subst hw
  subst hm
  refine wpList_append_ints hgd s x t ho base e k i bytes ht hi hz hsize hby hbs v xs hs (hown.alloc _) (W.heap.size + 1) (some ⟨W.heap.size, 0, none⟩) ys.length ys.length ys hx rfl (Nat.le_refl _) ?_ hb (by simp; omega) (by simp) ?_
  · intro _
    refine ⟨W.heap.size, 0, rfl, by omega, fun j hj => ?_⟩
    have h1 : (W.alloc (.cells (ys.map (Value.int k)).toArray e)).heap[W.heap.size]? = some (.cells (ys.map (Value.int k)).toArray e) := by
      show (W.heap.push _)[W.heap.size]? = _
      simp
    unfold World.cell?
    rw [h1]
    simp [hj]
  · intro v' w' h1 h2 _
    have hb2 := (hown.alloc (.cells (ys.map (Value.int k)).toArray e)).grown_below h2 (by simp; omega)
    exact h v' w' h1 (((Below.refl _ _).alloc hbase _).trans hb2)
end

set_option maxHeartbeats 400000 in
theorem putsum_any (v : Value) (xs : List Int) (n base : Nat) (w : World) (hn : n < 4294967296) (hown : Own .u8 5 w base v xs) (hbase : base ≤ w.heap.size) (hb : xs.length ≤ 549755813888) :
    Calls Tryd.prog 41 #[v, .int .u32 (n : Int)] w fun e w' => ∃ v', e = .returned v' ∧ Own .u8 5 w' base v' (xs ++ sumL n) ∧ Below base w w' := by
  obtain ⟨i0, hi0, hz0, hz1, hz2⟩ := info_parts byte_info
  go_enter Tryd.func41, Tryd.ntmps41
  have hS : sumL n = [(n : Int) / 16777216, (n : Int) / 65536 % 256, (n : Int) / 256 % 256, (n : Int) % 256] := by
    simp only [sumL, List.cons.injEq, and_true]
    omega
  rw [hS]
  clear hS
  go_wp2_with (at_builtin; refine wpList_append_new rfl (.tmp 5) (.tmp 17) 33 rfl base 5 .u8 i0 1 Tryd.underlying33 hi0 hz0 hz1 hz2 (by decide) v xs rfl w [(n : Int) / 16777216, (n : Int) / 65536 % 256, (n : Int) / 256 % 256, (n : Int) % 256] 4 rfl rfl hown rfl (by simp; omega) hbase ?_; intro v' w2 hown2 hbel2)
  go_ret
  exact ⟨v', rfl, hown2, hbel2⟩

/-- One byte more at the low end, in the walk's own words. -/
theorem or_byte (s c : Int) (h0 : 0 ≤ s) (h1 : s < 16777216) (c0 : 0 ≤ c) (c1 : c ≤ 255) : bits .or .u32 (s * 256) c = s * 256 + c := by
  rw [u32_or _ _ (by omega) (by omega) (by omega) (by omega)]
  have e : (s * 256).toNat = 2 ^ 8 * s.toNat := by omega
  rw [e, ← Nat.two_pow_add_eq_or_of_lt (show c.toNat < 2 ^ 8 by omega) s.toNat]
  omega
theorem sumOf_bounds (xs : List Int) (h : IsBytes xs) (k : Nat) (hk : k ≤ xs.length) : 0 ≤ sumOf (xs.take k) ∧ sumOf (xs.take k) < 256 ^ k := by
  induction k with
  | zero => simp [sumOf]
  | succ k ih =>
    obtain ⟨h0, h1⟩ := ih (by omega)
    rw [List.take_succ_eq_append_getElem (by omega), sumOf_snoc, Int.pow_succ]
    have := h.at_ (show k < xs.length by omega)
    omega

set_option maxHeartbeats 400000 in
theorem getsum_any (A : Option Addr) (xs : List Int) (c : Nat) (w : World) (hl : Lies .u8 w w.heap.size A xs) (hby : IsBytes xs) (hx : xs.length = 4) (hc : 4 ≤ c) :
    Calls Tryd.prog 58 #[.slice A xs.length c] w fun e w' => e = .returned (.int .u32 (sumOf xs)) ∧ w = w' := by
  obtain ⟨b, off, rfl, hbl, hc0⟩ := hl (by rintro rfl; simp at hx)
  have hcells : ∀ j (h : j < 4), w.cell? ⟨b, off + j, none⟩ = some (.int .u8 (xs[j]'(by omega))) := fun j h => hc0 j (by omega)
  clear hc0
  rw [hx]
  go_enter Tryd.func58, Tryd.ntmps58
  go_wp2_with fail
  go_loop [3, 5, 9] (fun sv _ iv => ∃ k : Nat, sv = .int .u32 (sumOf (xs.take k)) ∧ iv = .int .i64 k ∧ k ≤ 4)
    (fun _ _ iv => 4 - (intOf iv).toNat)
  case atStart => exact ⟨0, rfl, rfl, by omega⟩
  case round =>
    obtain ⟨k, rfl, rfl, hk⟩ := hrel
    by_cases hlt : k < 4
    · have hcell := hcells k hlt
      have hq := hby.at_ (show k < xs.length by omega)
      have hsn : sumOf (xs.take (k + 1)) = sumOf (xs.take k) * 256 + xs[k] := by rw [List.take_succ_eq_append_getElem (by omega), sumOf_snoc]
      obtain ⟨s0, s1⟩ := sumOf_bounds xs hby k (by omega)
      have s2 : sumOf (xs.take k) < 16777216 := by
        have : (256 : Int) ^ k ≤ 256 ^ 3 := by
          have := Nat.pow_le_pow_right (show 0 < 256 by decide) (show k ≤ 3 by omega)
          have h2 : ((256 ^ k : Nat) : Int) ≤ ((256 ^ 3 : Nat) : Int) := by omega
          rwa [Int.natCast_pow, Int.natCast_pow] at h2
        rw [show (256 : Int) ^ 3 = 16777216 from by decide] at this
        omega
      generalize xs[k]'(by omega) = q at hcell hq hsn
      generalize sumOf (xs.take k) = s at *
      have hor := or_byte s q s0 s2 hq.1 hq.2
      obtain ⟨q0, q1⟩ := hq
      have HSN := Lib.hid hsn
      clear hsn s1 hcells
      go_wp2
      go_round
      case rel => exact ⟨k + 1, by rw [HSN.out], by go_num, by omega⟩
      case measure => simp [intOf]; omega
    · have hk4 : k = xs.length := by omega
      have HF := Lib.hid (show xs.take k = xs by rw [hk4, List.take_length])
      clear hk4
      go_wp2_with fail
      go_ret
      exact ⟨by rw [HF.out]; rfl, rfl⟩

/-- A new row that holds nothing. -/
theorem empty_own (w : World) : Own .u8 5 (w.alloc (.cells #[] 5)) w.heap.size (.slice (some ⟨w.heap.size, 0, none⟩) 0 0) [] :=
  Own.of_row (cur := []) (by show (w.heap.push _)[w.heap.size]? = _; simp) (Nat.le_refl _) (by simp) (by simp [maxLen]) rfl rfl
set_option maxHeartbeats 400000 in
theorem clone_any (x : Addr) (xs : List Int) (c : Nat) (w : World) (hl : Lies .u8 w w.heap.size (some x) xs) (hc : xs.length ≤ c) (hb : xs.length ≤ 549755813888) :
    Calls Tryd.prog 59 #[.slice (some x) xs.length c] w (NewBytes w xs) := by
  obtain ⟨i0, hi0, hz0, hz1, hz2⟩ := info_parts byte_info
  have he : ∀ w : World, (binOp .eql 33 (.slice (some x) xs.length c) (.slice none 0 0)).run Tryd.prog w = .ok (.bool false) w := fun _ => rfl
  go_enter Tryd.func59, Tryd.ntmps59
  go_wp2_with (at_builtin; refine wpList_append_ints rfl (.tmp 5) (.tmp 6) 33 rfl w.heap.size 5 .u8 i0 1 Tryd.underlying33 hi0 hz0 hz1 hz2 (by decide) (.slice (some ⟨w.heap.size, 0, none⟩) 0 0) [] rfl (empty_own w) w.heap.size (some x) xs.length c xs rfl rfl hc (hl.alloc (Nat.le_refl _) _) (by simp; omega) (by simp) (by simp) ?_; intro v' w2 hown2 hgr2 _)
  rw [List.nil_append] at hown2
  have hb2 := (empty_own w).grown_below hgr2 (by simp)
  go_ret
  exact ⟨v', rfl, hown2, ((Below.refl _ _).alloc (Nat.le_refl _) _).trans hb2⟩
end Go.Proofs.YtffmfgbjlijpeaaDoor

namespace Go.Proofs.YtffmfgbjlijpeaaDoor
open Go.RowKit

theorem make_room_fr (n h p : Nat) (hn : n + h + 4 + p ≤ 1099511627776) (W : World) :
    (Instr.makeSlice 33 (.int .i64 (n : Int)) (.int .i64 ((n : Int) + (h : Int) + 4 + (p : Int)))).run Tryd.prog W = .ok (.slice (some ⟨W.heap.size, 0, none⟩) n (n + h + 4 + p)) (W.alloc (.cells (zeros (n + h + 4 + p)).toArray 5)) := by
  obtain ⟨i0, hi0, hz0, hz1, hz2⟩ := info_parts byte_info
  have hr := run_make (P := Tryd.prog) W 33 5 i0 _ Tryd.underlying33 hi0 hz0 .i64 .i64 (n : Int) ((n : Int) + (h : Int) + 4 + (p : Int)) (by omega) (by omega) (by rw [hz2]; omega) (by omega)
  have e2 : ((n : Int) + (h : Int) + 4 + (p : Int)).toNat = n + h + 4 + p := by omega
  have e3 : (madeCells (Value.int .u8 0).cells (n + h + 4 + p)) = (zeros (n + h + 4 + p)).toArray := by
    rw [← Array.toList_inj]
    exact toList_madeCells_one _ _
  rw [e2, hz1, Nat.mul_one, e3] at hr
  simpa using hr

set_option maxHeartbeats 800000 in
theorem fput_any (A : Option Addr) (xs : List Int) (c : Nat) (D : Option Addr) (ps : List Int) (d : Nat) (w : World) (hh : Half w) (hl : Lies .u8 w w.heap.size A xs) (hc : xs.length ≤ c) (hlp : Lies .u8 w w.heap.size D ps) (hd : ps.length ≤ d) (hD : D = none → d = 0)
    (hb : xs.length ≤ 274877906944) (hbp : ps.length ≤ 274877906944) (hby : IsBytes ps) :
    Calls Tryd.prog 33 #[.slice A xs.length c, .slice D ps.length d] w (NewBytes w (xs ++ frameL ps)) := by
  obtain ⟨i0, hi0, hz0, hz1, hz2⟩ := info_parts byte_info
  have HD := Lib.hid hD
  have h0 := hh.pos
  have HPN := Lib.hid (put_nil (ps.length : Int) w (by omega) (by omega))
  have hH := putL_length (ps.length : Int)
  have hfr : xs ++ frameL ps = xs ++ putL (ps.length : Int) ++ sumL (moreN 0 ps) ++ ps := by unfold frameL; simp
  obtain ⟨out, hout⟩ : ∃ out, out = xs ++ frameL ps := ⟨_, rfl⟩
  rw [← hout] at hfr ⊢
  clear hout hD
  obtain ⟨H, hHe⟩ : ∃ H, putL (ps.length : Int) = H := ⟨_, rfl⟩
  rw [hHe] at HPN hH hfr
  clear hHe
  obtain ⟨n, hnE⟩ : ∃ n, moreN 0 ps = n := ⟨_, rfl⟩
  have hn := moreN_lt 0 ps
  rw [hnE] at hfr hn
  have HNE := Lib.hid hnE
  have HOUT := Lib.hid hfr
  clear hnE hfr
  have hmk := make_room_fr xs.length H.length ps.length (by omega)
  go_enter Tryd.func33, Tryd.ntmps33
  go_wp2_with fail
  refine HPN.out.mono ?_
  rintro e w1 ⟨v1, rfl, hown1, hbel1⟩
  clear HPN
  obtain ⟨A1, c1, rfl, hc1, hm1, hl1⟩ := hown1.parts
  have hA1 : Hid (A1 = none → c1 = 0) := Lib.hid fun h => by
    subst h
    rcases hown1.2 with ⟨h2, h3⟩ | ⟨g, cap, cur, h2, _⟩
    · injection h2
    · cases h2
  clear hown1
  have hlx := (hl.below hbel1).more hbel1.size
  have hlq := (hlp.below hbel1).more hbel1.size
  have hh1 := hh.below hbel1 h0
  clear hl hlp hh
  go_wp2_with (first
    | (with_reducible refine wpList_copy_splice (o := ⟨some 25, _, _, _, _, _⟩) rfl (.tmp 23) (.tmp 24) 33 33 rfl 5 Tryd.underlying33 byte_size (some ⟨w1.heap.size, 0, none⟩) A xs.length (xs.length + H.length + 4 + ps.length) xs.length c rfl rfl w1.heap.size 0 (zeros (xs.length + H.length + 4 + ps.length)) 5 ?h1 (xs.map (Value.int .u8)) ?h2 ?h3 ?h4 (oneCell_ints _ _) w1.heap.size w1 ?h5 (Nat.le_refl _) ?h6))
  case h1 => exact heap_alloc_new w1 _
  case h2 => simp
  case h3 =>
    intro hp
    obtain ⟨b, off, he, hlt, hcell⟩ := hlx (by rintro rfl; simp at hp)
    refine ⟨_, he, fun j u hu => ?_⟩
    have hj : j < xs.length := by
      rcases Nat.lt_or_ge j xs.length with h | h
      · exact h
      · rw [List.getElem?_eq_none (by simpa using h)] at hu; cases hu
    rw [add_lit, World.cell?_alloc_lt _ _ _ hlt, hcell j hj]
    simpa [hj] using hu
  case h4 => simp [zeros_length]; omega
  case h5 => exact (Below.refl _ _).alloc (Nat.le_refl _) _
  case h6 =>
    intro w2 hrow hbel2
    have hown2 := splice_own hrow (Nat.le_refl _) rfl (by omega) (by simp only [maxLen]; omega)
    clear hrow hmk hlx
    have hl2 := hl1.below hbel2
    clear hl1
    go_wp2_with (at_builtin; refine wpList_append_ints rfl (.tmp 26) (.tmp 27) 33 rfl w1.heap.size 5 .u8 i0 1 Tryd.underlying33 hi0 hz0 hz1 hz2 (by decide) _ xs rfl hown2 w1.heap.size A1 H.length c1 H rfl rfl hc1 hl2 (by omega) hbel2.size hA1.out ?_; intro v3 w3 hown3 hgr3 _; have hbel3 : Below w1.heap.size w1 w3 := hbel2.trans (hown2.grown_below hgr3 hbel2.size); have hq3 := hlq.below hbel3; clear hgr3 hown2 hbel2 hl2 hlq)
    have hh3 := hh1.below hbel3 hh1.pos
    have hq4 := hq3.more hbel3.size
    have hs := sum_any D ps d w3 hh3 hq4 hby (by simp only [maxLen]; omega)
    rw [HNE.out] at hs
    refine hs.mono ?_
    rintro e w4 ⟨rfl, rfl⟩
    clear hs
    obtain ⟨ys, hys⟩ : ∃ ys, xs ++ H = ys := ⟨_, rfl⟩
    have hyl : ys.length = xs.length + H.length := by rw [← hys, List.length_append]
    have HO2 := Lib.hid (show out = ys ++ sumL n ++ ps by rw [HOUT.out, hys])
    rw [hys] at hown3
    clear HOUT
    have HYL := Lib.hid hyl
    have yb : ys.length ≤ 549755813888 := by omega
    clear hys hyl hq4
    go_wp2_with fail
    refine (putsum_any v3 ys n w1.heap.size w3 hn hown3 hbel3.size yb).mono ?_
    rintro e w5 ⟨v5, rfl, hown5, hbel5⟩
    have hq5 := hq3.below hbel5
    have hb5 := hbel3.trans hbel5
    obtain ⟨zs, hzs⟩ : ∃ zs, ys ++ sumL n = zs := ⟨_, rfl⟩
    have zb : zs.length + ps.length ≤ 1099511627776 := by rw [← hzs, List.length_append, sumL_length]; omega
    have HO3 := Lib.hid (show out = zs ++ ps by rw [HO2.out, hzs])
    rw [hzs] at hown5
    clear HO2
    clear hzs hown3 hbel5 hq3
    go_wp2_with (at_builtin; refine wpList_append_ints rfl (.tmp 33) (.tmp 34) 33 rfl w1.heap.size 5 .u8 i0 1 Tryd.underlying33 hi0 hz0 hz1 hz2 (by decide) v5 zs rfl hown5 w1.heap.size D ps.length d ps rfl rfl hd hq5 zb hb5.size HD.out ?_; intro v6 w6 hown6 hgr6 _; have hbel6 : Below w1.heap.size w5 w6 := hown5.grown_below hgr6 hb5.size; clear hgr6)
    go_ret
    exact ⟨v6, rfl, HO3.out ▸ hown6.lower hbel1.size, hbel1.trans ((hb5.trans hbel6).mono hbel1.size)⟩
end Go.Proofs.YtffmfgbjlijpeaaDoor

namespace Go.Proofs.YtffmfgbjlijpeaaDoor
open Go.RowKit

/-- What a reading of a frame answers: new bytes, how many bytes the frame has, the error. -/
def TellsB (r : List Int × Int × Int) (w : World) (e : Ending) (w' : World) : Prop := ∃ v, e = .returned (.tuple #[v, .int .i64 r.2.1, .int .i64 r.2.2]) ∧ Own .u8 5 w' w.heap.size v r.1 ∧ Below w.heap.size w w'
theorem TellsB.nil {r : List Int × Int × Int} {w : World} {b c : Int} (h : r = ([], b, c)) : TellsB r w (.returned (.tuple #[.slice none 0 0, .int .i64 b, .int .i64 c])) w := by subst h; exact ⟨_, rfl, Own.nil, Below.refl _ _⟩
theorem TellsB.drew {r : List Int × Int × Int} {w : World} {b c : Int} {m : Nat} (h : r = ([], b, c)) : TellsB r w (.returned (.tuple #[.slice none 0 0, .int .i64 b, .int .i64 c])) (w.drewN m) := by
  subst h; exact ⟨_, rfl, Own.nil, ⟨rfl, rfl, rfl, Nat.le_refl _, fun _ _ => rfl⟩⟩
theorem TellsB.mk {r : List Int × Int × Int} {w w' : World} {b : Int} {v : Value} {p : List Int} (h : r = (p, b, 0)) (ho : Own .u8 5 w' w.heap.size v p) (hb : Below w.heap.size w w') : TellsB r w (.returned (.tuple #[v, .int .i64 b, .int .i64 0])) w' := by subst h; exact ⟨_, rfl, ho, hb⟩

set_option maxHeartbeats 800000 in
theorem fget_any (A : Option Addr) (xs : List Int) (c : Nat) (w : World) (hh : Half w) (hl : Lies .u8 w w.heap.size A xs) (hby : IsBytes xs) (hc : xs.length ≤ c) (hcm : c ≤ maxLen) :
    Calls Tryd.prog 52 #[.slice A xs.length c] w (TellsB (getFr xs) w) := by
  obtain ⟨i0, hi0, hz0, hz1, hz2⟩ := info_parts byte_info
  obtain ⟨R, hR⟩ : ∃ R, R = getFr xs := ⟨_, rfl⟩
  rw [← hR]
  have HR := Lib.hid hR
  clear hR
  have hg := get_any A xs c w hl hby
  obtain ⟨x, k, e, hx⟩ : ∃ x k e, getR xs = (x, k, e) := ⟨_, _, _, rfl⟩
  rw [hx] at hg
  have HX := Lib.hid hx
  have HG := Lib.hid hg
  clear hx hg
  unfold maxLen at hcm
  by_cases he : e ≠ 0
  · have hb : (e != 0) = true := by simp [he]
    have hfin := Lib.hid (HR.out.trans (getFr_err HX.out he))
    clear he
    go_enter Tryd.func52, Tryd.ntmps52
    go_wp2_with fail
    refine HG.out.mono ?_
    rintro e w1 ⟨rfl, rfl⟩
    go_wp2
    go_ret3
    exact TellsB.nil hfin.out
  obtain rfl : e = 0 := by omega
  obtain ⟨len, n, rfl, rfl, hn1, hn10, hnl, hlen⟩ := getR_nats hby HX.out
  clear he
  by_cases hlong : 16777216 < len
  · have hfin := Lib.hid (HR.out.trans (getFr_long HX.out (by omega)))
    have h1 : (16777216 : Int) < (len : Int) := by omega
    go_enter Tryd.func52, Tryd.ntmps52
    go_wp2_with fail
    refine HG.out.mono ?_
    rintro e w1 ⟨rfl, rfl⟩
    go_wp2
    go_ret3
    exact TellsB.nil hfin.out
  have h1 : ¬ (16777216 : Int) < (len : Int) := by omega
  by_cases hshort : xs.length < n + 4 + len
  · have hfin := Lib.hid (HR.out.trans (getFr_short HX.out (by omega) (by omega)))
    have h2 : (xs.length : Int) < (n : Int) + 4 + (len : Int) := by omega
    go_enter Tryd.func52, Tryd.ntmps52
    go_wp2_with fail
    refine HG.out.mono ?_
    rintro e w1 ⟨rfl, rfl⟩
    go_wp2
    go_ret3
    exact TellsB.nil hfin.out
  have h2 : ¬ (xs.length : Int) < (n : Int) + 4 + (len : Int) := by omega
  obtain ⟨b, off, rfl, hbl, _⟩ := hl.at_ (j := 0) (by omega)
  go_enter Tryd.func52, Tryd.ntmps52
  go_wp2_with fail
  refine HG.out.mono ?_
  rintro e w1 ⟨rfl, rfl⟩
  go_wp2_with fail
  have e1 : (n : Int) + 4 + (len : Int) = ((n + 4 + len : Nat) : Int) := by omega
  have e2 : (n : Int) + 4 = ((n + 4 : Nat) : Int) := by omega
  rw [e1, e2]
  clear e1 e2
  have ht : n + 4 + len ≤ xs.length := by omega
  have hft : n + 4 ≤ n + 4 + len := by omega
  have hnf : n ≤ n + 4 := by omega
  clear h2 h1 hshort
  obtain ⟨t, htE⟩ : ∃ t, n + 4 + len = t := ⟨_, rfl⟩
  obtain ⟨f, hfE⟩ : ∃ f, n + 4 = f := ⟨_, rfl⟩
  rw [htE] at ht hft ⊢
  rw [hfE] at hnf hft ⊢
  have htc : t ≤ c := by omega
  have hfc : f ≤ c := by omega
  have HTE := Lib.hid htE
  have HFE := Lib.hid hfE
  clear htE hfE
  have hn0 := HFE.out
  have hcn : ¬ c = n := by omega
  have ht0 := HTE.out
  have hPl : ((xs.drop f).take len).length = t - f := by rw [List.length_take, List.length_drop]; omega
  have hQl : ((xs.drop n).take 4).length = 4 := by rw [List.length_take, List.length_drop]; omega
  have hLP : Lies .u8 w w.heap.size (if c = f then some ⟨b, off, none⟩ else some ⟨b, off + f, none⟩) ((xs.drop f).take len) := by
    have := (hl.cut (n := f) hc).take len
    simpa [add_lit] using this
  have hLQ : Lies .u8 w w.heap.size (some ⟨b, off + n, none⟩) ((xs.drop n).take 4) := by
    have := (hl.cut (n := n) hc).take 4
    rw [if_neg hcn] at this
    simpa [add_lit] using this
  have hbP : IsBytes ((xs.drop f).take len) := fun q hq => hby q (List.mem_of_mem_drop (List.mem_of_mem_take hq))
  have hbQ : IsBytes ((xs.drop n).take 4) := fun q hq => hby q (List.mem_of_mem_drop (List.mem_of_mem_take hq))
  have hx2 : f - n = 4 := by omega
  have hS1 : ∀ m, Calls Tryd.prog 42 #[.slice (if c = f then some ⟨b, off, none⟩ else some ⟨b, off + f, none⟩) (t - f) (c - f)] (w.drewN m) fun e w' => e = .returned (.int .u32 ((moreN 0 ((xs.drop f).take len) : Nat) : Int)) ∧ w' = w.drewN m := fun m => by
    have := sum_any _ ((xs.drop f).take len) (c - f) (w.drewN m) hh hLP hbP (by rw [hPl]; simp only [maxLen]; omega)
    rw [hPl] at this
    exact this.mono fun e w' h => ⟨h.1, h.2.symm⟩
  have hS2 : ∀ m, Calls Tryd.prog 58 #[.slice (some ⟨b, off + n, none⟩) (f - n) (c - n)] (w.drewN m) fun e w' => e = .returned (.int .u32 (sumOf ((xs.drop n).take 4))) ∧ w' = w.drewN m := fun m => by
    have := getsum_any _ ((xs.drop n).take 4) (c - n) (w.drewN m) hLQ hbQ hQl (by omega)
    rw [hQl] at this
    rw [hx2]
    exact this.mono fun e w' h => ⟨h.1, h.2.symm⟩
  have hfin : (((moreN 0 ((xs.drop f).take len) : Nat) : Int) ≠ sumOf ((xs.drop n).take 4) → R = ([], 0, 5)) ∧ (((moreN 0 ((xs.drop f).take len) : Nat) : Int) = sumOf ((xs.drop n).take 4) → R = ((xs.drop f).take len, (t : Int), 0)) := by
    have e1 : f = n + 4 := by omega
    have e2 : t = n + 4 + len := by omega
    rw [e1, e2]
    exact ⟨fun h => HR.out.trans (getFr_sum HX.out (by omega) (by omega) h), fun h => HR.out.trans (getFr_ok HX.out (by omega) (by omega) h)⟩
  obtain ⟨P, hPE⟩ : ∃ P, (xs.drop f).take len = P := ⟨_, rfl⟩
  rw [hPE] at hS1 hfin hPl hLP
  obtain ⟨r1, hr1⟩ : ∃ r, moreN 0 P = r := ⟨_, rfl⟩
  obtain ⟨r2, hr2⟩ : ∃ r, sumOf ((xs.drop n).take 4) = r := ⟨_, rfl⟩
  rw [hr1] at hS1 hfin
  rw [hr2] at hS2 hfin
  have H1 := Lib.hid hS1
  have H2 := Lib.hid hS2
  have HF := Lib.hid hfin
  have HPL := Lib.hid hPl
  have HLP := Lib.hid hLP
  clear hS1 hS2 hfin hPl hLP hPE hr1 hr2 hQl hLQ hbP hbQ hx2 hn0 ht0
  by_cases hs : (r1 : Int) = r2
  · have hsb : ((r1 : Int) != r2) = false := by simp [hs]
    have hR := Lib.hid (HF.out.2 hs)
    clear hs HF
    go_quiet (first
      | (go_at_call 42; refine Calls.quiet_of_same (H1.out _))
      | (go_at_call 58; refine Calls.quiet_of_same (H2.out _)))
    go_wp2_with fail
    case inl h =>
      have hlp := HLP.out
      rw [if_pos h] at hlp
      have hpl := HPL.out
      have hcl := clone_any ⟨b, off, none⟩ P 0 (w.drewN nq) hlp (by omega) (by have := HTE.out; have := HFE.out; omega)
      rw [hpl] at hcl
      refine hcl.mono ?_
      rintro e w2 ⟨v, rfl, hown, hbel⟩
      clear hcl hlp hpl
      go_wp2
      go_ret3
      exact TellsB.mk hR.out hown (below_undrewN hbel)
    case inr h =>
      have hlp := HLP.out
      rw [if_neg h] at hlp
      have hpl := HPL.out
      have hcl := clone_any ⟨b, off + f, none⟩ P (c - f) (w.drewN nq) hlp (by omega) (by have := HTE.out; have := HFE.out; omega)
      rw [hpl] at hcl
      refine hcl.mono ?_
      rintro e w2 ⟨v, rfl, hown, hbel⟩
      clear hcl hlp hpl
      go_wp2
      go_ret3
      exact TellsB.mk hR.out hown (below_undrewN hbel)
  · have hsb : ((r1 : Int) != r2) = true := by simp [hs]
    have hR := Lib.hid (HF.out.1 hs)
    clear hs HF
    go_quiet (first
      | (go_at_call 42; refine Calls.quiet_of_same (H1.out _))
      | (go_at_call 58; refine Calls.quiet_of_same (H2.out _)))
    go_wp2
    all_goals
      go_ret3
      exact TellsB.drew hR.out
end Go.Proofs.YtffmfgbjlijpeaaDoor
