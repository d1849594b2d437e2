/- Contracts of the document's own NewStore, fault, told and Fail. -/
import Derived.Test.YtfbdmagonjjjoaaDoorRSFind
import Derived.Test.YtfbdmagonjjjoaaDoorVSFail
namespace Go.Proofs.YtfbdmagonjjjoaaDoor
open Go.RowKit

theorem int_under : Tryd.prog.underlying 33 = some (.slice 3) := by kernel_rfl
/-- append of numbers onto a row of the call's own: the run. -/
theorem more_ints {W : World} {base : Nat} {v : Value} {xs ys : List Int} {A : Option Addr} {c B : Nat} (ho : Own .i64 3 W base v xs) (hbase : base ≤ W.heap.size) (hl : Lies .i64 W B A ys) (hA : A = none → c = 0) (hc : ys.length ≤ c) (hb : xs.length + ys.length ≤ 1000000000) (ty : TypeId) :
    ∃ A' c' w1, (Builtin.append_ #[33, 33] ty #[v, .slice A ys.length c]).run Tryd.prog W = .ok (.slice A' (xs ++ ys).length c') w1 ∧ Own .i64 3 w1 base (.slice A' (xs ++ ys).length c') (xs ++ ys) ∧ Below base W w1 := by
  obtain ⟨i, hi, hz, hs, hby⟩ := int_info
  obtain ⟨v', w1, hrun, h1, h2, _⟩ := run_append_ints (P := Tryd.prog) (w := W) 33 ty base 3 .i64 i 8 int_under hi hz hs hby (by decide) v xs ho B A ys.length c ys rfl hc hl (by omega) hbase hA
  obtain ⟨A', c', rfl, _⟩ := h1.form
  exact ⟨A', c', w1, hrun, h1, ho.grown_below h2 hbase⟩
/-- A row of numbers without its first one, as the model lays it. -/
theorem ints_from {w : World} {A : Option Addr} {n : Int} {r : List Int} {c B : Nat} (hl : Lies .i64 w B A (n :: r)) (hcc : (n :: r).length ≤ c) (hAn : A = none → c = 0) :
    ∃ A', (∀ W : World, (Instr.slice 33 (.slice A (r.length + 1) c) (some (.int .i64 1)) none none).run Tryd.prog W = .ok (.slice A' r.length (c - 1)) W) ∧ Lies .i64 w B A' r ∧ (A' = none → c - 1 = 0) := by
  refine ⟨if c = 1 then A else A.map (·.add 1), fun W => ?_, by simpa using hl.cut (n := 1) hcc, fun h => ?_⟩
  · have he : Tryd.prog.elem 33 = 3 := by kernel_rfl
    rw [run_slice_l W 33 A (r.length + 1) c (by rw [he]; exact int_under) .i64 1 (by omega) (by omega), he, Tryd.sizeOf3 W]
    simp only [Result.andThen, sliced]
    simp
  · split at h
    · omega
    · rcases A with _ | ad
      · have := hAn rfl; omega
      · simp at h

section
variable {base : Nat} {S : Nat → Prop} {w : World} {p : Nat} {room : Int} {fs : List FileV} {bad : List Int}
set_option maxHeartbeats 400000 in
theorem osnew_any (room : Int) (w : World) : Calls Tryd.prog 9 #[.int .i64 room] w fun e w' => e = .returned (.pointer (some ⟨w.heap.size, 0, none⟩)) ∧ w' = w.alloc (.cells #[.int .i64 (max room 0), .slice none 0 0, .slice none 0 0] 51) := by
  by_cases h : room < 0
  · have hd : decide (room < 0) = true := decide_eq_true h
    rw [Int.max_eq_right (by omega)]
    go_enter Tryd.func9, Tryd.ntmps9
    go_wp2
    go_ret
    exact ⟨rfl, rfl⟩
  · have hd : decide (room < 0) = false := decide_eq_false h
    rw [Int.max_eq_left (by omega)]
    go_enter Tryd.func9, Tryd.ntmps9
    go_wp2
    go_ret
    exact ⟨rfl, rfl⟩
theorem osnew_store (base : Nat) (w : World) (room : Int) (hb : base ≤ w.heap.size) : RStore base (fun i => i = w.heap.size) (w.alloc (.cells #[.int .i64 room, .slice none 0 0, .slice none 0 0] 51)) w.heap.size room [] [] := by
  refine ⟨⟨by simp; omega, fun i hi => by subst hi; simp; omega⟩, rfl, _, _, ?_, RowO.nil, BadO.nil⟩
  show (w.heap.push _)[w.heap.size]? = _
  simp
theorem told_any (n e : Int) (w : World) : Calls Tryd.prog 37 #[.int .i64 n, .int .i64 e] w fun x w' => x = .returned (.int .i64 (if n = 2 ∧ e = 0 then 9 else e)) ∧ w' = w := by
  by_cases h : n = 2
  · by_cases h2 : e = 0
    · subst h h2
      go_enter Tryd.func37, Tryd.ntmps37
      go_wp2
      go_ret
      exact ⟨rfl, rfl⟩
    · subst h
      have b2 : (e == 0) = false := by simpa using h2
      rw [if_neg (by omega)]
      go_enter Tryd.func37, Tryd.ntmps37
      go_wp2
      go_ret
      exact ⟨rfl, rfl⟩
  · have b1 : (n == 2) = false := by simpa using h
    rw [if_neg (by omega)]
    go_enter Tryd.func37, Tryd.ntmps37
    go_wp2
    go_ret
    exact ⟨rfl, rfl⟩

set_option maxHeartbeats 800000 in
theorem osfault_any (hR : RStore base S w p room fs bad) (hbl : bad.length ≤ 1000000) :
    Calls Tryd.prog 34 #[.pointer (some ⟨p, 0, none⟩)] w fun e w' => e = .returned (.int .i64 (bad.headD 0)) ∧ OLeft base S w w' p room fs bad.tail := by
  obtain ⟨A, c, Ab, cb, _, _, c2, _, _, _, _, hb1, hb2, hb3, hb4⟩ := hR.cells
  cases bad with
  | nil =>
    have HF := Lib.hid (OLeft.of_below hR (Below.refl _ _))
    rw [List.length_nil] at c2
    clear hR hb1 hb2 hb3 hb4
    go_enter Tryd.func34, Tryd.ntmps34
    go_wp2
    go_ret
    exact ⟨rfl, HF.out⟩
  | cons n r =>
    obtain ⟨A', hsl, hl', hn'⟩ := ints_from hb4 hb1 hb3
    obtain ⟨b, off, rfl, hbl', hc0⟩ := hb4.at_ (j := 0) (by simp)
    have hc0 : w.cell? ⟨b, off, none⟩ = some (.int .i64 n) := by simpa using hc0
    have HA := Lib.hid (fun ty => more_ints (W := w) (base := w.heap.size) (v := .slice none 0 0) (xs := []) (c := cb - 1) Own.nil (Nat.le_refl _) hl' hn' (by simp at hb1; omega) (by simp at hbl; simp; omega) ty)
    have HF2 : Hid (∀ (W : World) (v : Value), Below w.heap.size w W → Own .i64 3 W w.heap.size v ([] ++ r) → OLeft base S w (W.setCell ⟨p, 2, none⟩ v) p room fs ([] ++ r) ∧ W.cell? ⟨p, 2, none⟩ = some (.slice (some ⟨b, off, none⟩) (n :: r).length cb) ∧ W.frozen? ⟨p, 2, none⟩ = false) :=
      Lib.hid fun W v h ho => ⟨bad_fin hR h ho, (h.cell (p := ⟨p, 2, none⟩) hR.lt).trans c2, (hR.below h).thaw 2⟩
    rw [List.length_cons] at c2 hb1 HF2
    obtain ⟨L, hL⟩ : ∃ L, r.length = L := ⟨_, rfl⟩
    simp only [List.nil_append] at HA HF2
    rw [hL] at c2 hb1 HA HF2 hsl
    unfold maxLen at hb2
    show Calls _ _ _ _ fun e w' => e = .returned (.int .i64 n) ∧ OLeft base S w w' p room fs r
    clear hR hL hbl hl' hn' hb3 hb4 hbl'
    go_enter Tryd.func34, Tryd.ntmps34
    go_wp2_with (at_builtin; obtain ⟨A2, c2', w1, hrun, ho, hb⟩ := HA.out 33; obtain ⟨FIN, d2, z2⟩ := HF2.out w1 _ hb ho; refine wpList_append_run rfl (.const (.slice none 0 0)) (.tmp 21) 33 rfl _ _ rfl rfl _ w1 hrun ?_)
    go_ret
    exact ⟨rfl, FIN⟩
set_option maxHeartbeats 800000 in
set_option maxRecDepth 4000 in
theorem osfail_any (hR : RStore base S w p room fs bad) (A : Option Addr) (ys : List Int) (c : Nat) (hl : Lies .i64 w w.heap.size A ys) (hA : A = none → c = 0) (hc : ys.length ≤ c) (hb : bad.length + ys.length ≤ 1000000) :
    Calls Tryd.prog 25 #[.pointer (some ⟨p, 0, none⟩), .slice A ys.length c] w fun e w' => e = .returned (.tuple #[]) ∧ OLeft base S w w' p room fs (bad ++ ys) := by
  obtain ⟨Al, cl, Ab, cb, _, _, c2, _, _, _, _, hb1, hb2, hb3, hb4⟩ := hR.cells
  have HA := Lib.hid (fun ty => more_ints (W := w) (base := w.heap.size) (v := .slice none 0 0) (xs := []) (c := cb) Own.nil (Nat.le_refl _) hb4 hb3 hb1 (by simp; omega) ty)
  have HB := Lib.hid (fun (W : World) (v : Value) (h : Below w.heap.size w W) (ho : Own .i64 3 W w.heap.size v bad) (ty : TypeId) => more_ints (W := W) (base := w.heap.size) (v := v) (xs := bad) (c := c) ho h.size (hl.below h) hA hc (by omega) ty)
  have HF2 : Hid (∀ (W : World) (v : Value), Below w.heap.size w W → Own .i64 3 W w.heap.size v (bad ++ ys) → OLeft base S w (W.setCell ⟨p, 2, none⟩ v) p room fs (bad ++ ys) ∧ W.cell? ⟨p, 2, none⟩ = some (.slice Ab bad.length cb) ∧ W.frozen? ⟨p, 2, none⟩ = false) :=
      Lib.hid fun W v h ho => ⟨bad_fin hR h ho, (h.cell (p := ⟨p, 2, none⟩) hR.lt).trans c2, (hR.below h).thaw 2⟩
  simp only [List.nil_append] at HA
  obtain ⟨zs, hzs⟩ : ∃ zs, bad ++ ys = zs := ⟨_, rfl⟩
  obtain ⟨L, hL⟩ : ∃ L, ys.length = L := ⟨_, rfl⟩
  rw [hzs] at HB HF2 ⊢
  rw [hL] at HB ⊢
  clear hR hl hA hc hb hb1 hb2 hb3 hb4 hzs hL
  go_enter Tryd.func25, Tryd.ntmps25
  go_wp2_with (at_builtin; first
    | (obtain ⟨A3, c3', w2, hrun2, ho2, hbw2⟩ := HB.out w1 _ hbw ho 33; obtain ⟨FIN, d2, z2⟩ := HF2.out w2 _ (hbw.trans hbw2) ho2; refine wpList_append_run rfl (.tmp 9) (.tmp 10) 33 rfl _ _ rfl rfl _ w2 hrun2 ?_)
    | (obtain ⟨A2, c2', w1, hrun, ho, hbw⟩ := HA.out 33; refine wpList_append_run rfl (.const (.slice none 0 0)) (.tmp 8) 33 rfl _ _ rfl rfl _ w1 hrun ?_))
  go_end0
  exact ⟨rfl, FIN⟩
end
end Go.Proofs.YtfbdmagonjjjoaaDoor
