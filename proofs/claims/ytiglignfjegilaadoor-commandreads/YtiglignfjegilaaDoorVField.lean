/- How a command's fields lie as interface values, and the program's own list of them. -/
import Derived.Test.YtiglignfjegilaaDoorCmdBase
import Derived.Test.YtiglignfjegilaaDoorCmdFld
import Derived.Test.YtiglignfjegilaaDoorProg
import Derived.Deep.QuietTactic
import Derived.BigQuiet
import Derived.Deep.DeepCutAuto
namespace Go.Proofs.YtiglignfjegilaaDoor
open Go.RowKit

/-- A field of the command in block g, as the program hands it around. -/
def faceF (g : Nat) : Fld → Value
  | .num k lo hi => .iface 59 (.agg #[.pointer (some ⟨g, k, none⟩), .int .i64 lo, .int .i64 hi])
  | .recs => .iface 60 (.pointer (some ⟨g, 3, none⟩))
  | .group => .iface 61 (.pointer (some ⟨g, 4, none⟩))
  | .sum => .iface 64 (.pointer (some ⟨g, 8, none⟩))
/-- The fields lie in a row of their own. -/
def FieldsLie (w : World) (base : Nat) (A : Option Addr) (g : Nat) (fs : List Fld) : Prop :=
  fs ≠ [] → ∃ b, A = some ⟨b, 0, none⟩ ∧ base ≤ b ∧ b < w.heap.size ∧ ∀ i (h : i < fs.length), w.cell? ⟨b, i, none⟩ = some (faceF g fs[i])
/-- What fields answers. -/
def TellsFields (k : Int) (g : Nat) (w : World) (e : Ending) (w' : World) : Prop :=
  ∃ A, e = .returned (.tuple #[.slice A (fieldsK k).length (fieldsK k).length, .bool (decide (known k))]) ∧ Below w.heap.size w w' ∧ FieldsLie w' w.heap.size A g (fieldsK k)
theorem fieldsLie_new (W : World) (base g : Nat) (fs : List Fld) (T : TypeId) (h : base ≤ W.heap.size) : FieldsLie (W.alloc (.cells (fs.map (faceF g)).toArray T)) base (some ⟨W.heap.size, 0, none⟩) g fs := fun _ => by
  refine ⟨_, rfl, h, by simp, fun i hi => ?_⟩
  rw [World.cell?_alloc_at _ _ _ _ rfl]
  simp [hi]
theorem FieldsLie.drew {W : World} {base g : Nat} {A : Option Addr} {fs : List Fld} (h : FieldsLie W base A g fs) : FieldsLie W.drew base A g fs := h
theorem fieldsLie_none (W : World) (base : Nat) (A : Option Addr) (g : Nat) : FieldsLie W base A g [] := fun h => absurd rfl h
set_option maxHeartbeats 800000 in
/-- What confFields answers: the four numbers from g's cell 9 on. -/
theorem confFields_any (w : World) (g : Nat) :
    Calls Tryd.prog 29 #[.pointer (some ⟨g, 9, none⟩)] w (fun e w' => ∃ A, e = .returned (.slice A 4 4) ∧ Below w.heap.size w w' ∧ FieldsLie w' w.heap.size A g (fieldsK 6)) := by
  go_enter Tryd.func29, Tryd.ntmps29
  go_upto_region 1 with fail
  go_region_held (fun _ => True) (go_keep) (fail)
  go_wp2_with fail
  go_ret
  exact ⟨_, rfl, ((Below.refl _ w).alloc (Nat.le_refl _) _).drew, FieldsLie.drew <| fieldsLie_new w _ g (fieldsK 6) _ (Nat.le_refl _)⟩
set_option maxHeartbeats 1600000 in
theorem fields_any (w : World) (g : Nat) (v : Value) (c : Cmd) (h : w.heap[g]? = some (cmdO v c)) :
    Calls Tryd.prog 16 #[.pointer (some ⟨g, 0, none⟩)] w (TellsFields c.kind g w) := by
  have g0 := (cmd_at h).1
  obtain ⟨k, hk⟩ : ∃ k, c.kind = k := ⟨_, rfl⟩
  rw [hk] at g0 ⊢
  have hlt := cell_block_lt g0
  clear h hk
  obtain ⟨W, hW⟩ : ∃ W, ((w.alloc (.cells #[.pointer (some ⟨g, 5, none⟩), .int .i64 (0), .int .i64 1125899906842624] 59)).alloc (.cells #[.pointer (some ⟨g, 2, none⟩), .int .i64 (0), .int .i64 1099511627776] 59)).alloc (.cells #[.pointer (some ⟨g, 7, none⟩), .int .i64 (-1099511627776), .int .i64 1099511627776] 59) = W := ⟨_, rfl⟩
  have hb : Below w.heap.size w W := by
    rw [← hW]
    exact (((Below.refl _ w).alloc (Nat.le_refl _) _).alloc (by simp) _).alloc (by simp; omega) _
  have hWs : W.heap.size = w.heap.size + 3 := by rw [← hW]; simp
  have hg : W.cell? ⟨g, 0, none⟩ = some (.int .i64 k) := (hb.cell (p := ⟨g, 0, none⟩) hlt).trans g0
  have hall : ∀ j, W.cell? ⟨w.heap.size, j, none⟩ = (#[.pointer (some ⟨g, 5, none⟩), .int .i64 (0), .int .i64 1125899906842624] : Array Value)[j]? ∧ W.cell? ⟨w.heap.size + 1, j, none⟩ = (#[.pointer (some ⟨g, 2, none⟩), .int .i64 (0), .int .i64 1099511627776] : Array Value)[j]? ∧ W.cell? ⟨w.heap.size + 1 + 1, j, none⟩ = (#[.pointer (some ⟨g, 7, none⟩), .int .i64 (-1099511627776), .int .i64 1099511627776] : Array Value)[j]? := fun j => by
    rw [← hW]
    refine ⟨?_, ?_, ?_⟩
    · rw [World.cell?_alloc_lt _ _ _ (by simp; omega), World.cell?_alloc_lt _ _ _ (by simp)]
      exact World.cell?_alloc_at _ _ _ _ (by simp)
    · rw [World.cell?_alloc_lt _ _ _ (by simp)]
      exact World.cell?_alloc_at _ _ _ _ (by simp)
    · exact World.cell?_alloc_at _ _ _ _ (by simp)
  have s0 := (hall 0).1
  have s1 := (hall 1).1
  have s2 := (hall 2).1
  have t0 := (hall 0).2.1
  have t1 := (hall 1).2.1
  have t2 := (hall 2).2.1
  have u0 := (hall 0).2.2
  have u1 := (hall 1).2.2
  have u2 := (hall 2).2.2
  simp only [List.getElem?_toArray, List.getElem?_cons_zero, List.getElem?_cons_succ] at s0 s1 s2 t0 t1 t2 u0 u1 u2
  have HB := Lib.hid hb
  have HWS := Lib.hid hWs
  clear hall hb hWs
  go_enter Tryd.func16, Tryd.ntmps16
  go_upto_region 4 with fail

  clear hW
  generalize w.heap.size + 1 + 1 = n6 at *
  generalize w.heap.size + 1 = n5 at *
  generalize hn4 : w.heap.size = n4 at *
  rw [← hn4] at HB HWS
  rcases fieldsK_cases k with h | h | h | h | h | h | h | h | h | h | h | h | ⟨hn, h⟩
  · subst h
    go_wp2_with fail
    go_ret2
    exact ⟨none, rfl, HB.out, fieldsLie_none _ _ _ _⟩
  · subst h
    go_upto_region 10 with fail
    go_region_held (fun w2 => (w2.cell? ⟨n4, 0, none⟩ = some (.pointer (some ⟨g, 5, none⟩)) ∧ w2.cell? ⟨n4, 1, none⟩ = some (.int .i64 0) ∧ w2.cell? ⟨n4, 2, none⟩ = some (.int .i64 1125899906842624)) ∧ w2.cell? ⟨n5, 0, none⟩ = some (.pointer (some ⟨g, 2, none⟩)) ∧ w2.cell? ⟨n5, 1, none⟩ = some (.int .i64 0) ∧ w2.cell? ⟨n5, 2, none⟩ = some (.int .i64 1099511627776)) (go_keep) (fail)
    go_wp2_with fail
    go_ret2
    exact ⟨_, rfl, (HB.out.alloc HB.out.size _).drew, FieldsLie.drew <| fieldsLie_new W _ g (fieldsK 1) _ HB.out.size⟩
  · subst h
    go_upto_region 12 with fail
    go_region_held (fun w2 => (w2.cell? ⟨n4, 0, none⟩ = some (.pointer (some ⟨g, 5, none⟩)) ∧ w2.cell? ⟨n4, 1, none⟩ = some (.int .i64 0) ∧ w2.cell? ⟨n4, 2, none⟩ = some (.int .i64 1125899906842624)) ∧ w2.cell? ⟨n5, 0, none⟩ = some (.pointer (some ⟨g, 2, none⟩)) ∧ w2.cell? ⟨n5, 1, none⟩ = some (.int .i64 0) ∧ w2.cell? ⟨n5, 2, none⟩ = some (.int .i64 1099511627776)) (go_keep) (fail)
    go_wp2_with fail
    go_ret2
    exact ⟨_, rfl, (HB.out.alloc HB.out.size _).drew, FieldsLie.drew <| fieldsLie_new W _ g (fieldsK 2) _ HB.out.size⟩
  · subst h
    go_upto_region 14 with fail
    go_region_held (fun w2 => (w2.cell? ⟨n4, 0, none⟩ = some (.pointer (some ⟨g, 5, none⟩)) ∧ w2.cell? ⟨n4, 1, none⟩ = some (.int .i64 0) ∧ w2.cell? ⟨n4, 2, none⟩ = some (.int .i64 1125899906842624)) ∧ w2.cell? ⟨n5, 0, none⟩ = some (.pointer (some ⟨g, 2, none⟩)) ∧ w2.cell? ⟨n5, 1, none⟩ = some (.int .i64 0) ∧ w2.cell? ⟨n5, 2, none⟩ = some (.int .i64 1099511627776)) (go_keep) (fail)
    go_wp2_with fail
    go_ret2
    exact ⟨_, rfl, (HB.out.alloc HB.out.size _).drew, FieldsLie.drew <| fieldsLie_new W _ g (fieldsK 3) _ HB.out.size⟩
  · subst h
    go_wp2_with fail
    go_ret2
    exact ⟨_, rfl, HB.out.alloc HB.out.size _, fieldsLie_new W _ g (fieldsK 4) _ HB.out.size⟩
  · subst h
    go_wp2_with fail
    go_ret2
    exact ⟨_, rfl, HB.out.alloc HB.out.size _, fieldsLie_new W _ g (fieldsK 5) _ HB.out.size⟩
  · subst h
    have HC := Lib.hid (confFields_any W g)
    go_wp2_with fail
    refine HC.out.mono ?_
    rintro e w2 ⟨A, rfl, hb2, hl⟩
    have HB2 := Lib.hid (HB.out.trans (hb2.mono HB.out.size))
    have HL2 : Hid (FieldsLie w2 w.heap.size A g (fieldsK 6)) := Lib.hid fun hne => by
      obtain ⟨b, e1, h1, h2⟩ := hl hne
      exact ⟨b, e1, Nat.le_trans HB.out.size h1, h2⟩
    clear hb2 hl
    go_wp2_with fail
    go_ret2
    exact ⟨A, rfl, HB2.out, HL2.out⟩
  · subst h
    go_wp2_with fail
    go_ret2
    exact ⟨none, rfl, HB.out, fieldsLie_none _ _ _ _⟩
  · subst h
    go_wp2_with fail
    go_ret2
    exact ⟨_, rfl, HB.out.alloc HB.out.size _, fieldsLie_new W _ g (fieldsK 8) _ HB.out.size⟩
  · subst h
    go_wp2_with fail
    go_ret2
    exact ⟨_, rfl, HB.out.alloc HB.out.size _, fieldsLie_new W _ g (fieldsK 9) _ HB.out.size⟩
  · subst h
    go_wp2_with fail
    go_ret2
    exact ⟨none, rfl, HB.out, fieldsLie_none _ _ _ _⟩
  · subst h
    go_upto_region 25 with fail
    go_region_held (fun w2 => (w2.cell? ⟨n4, 0, none⟩ = some (.pointer (some ⟨g, 5, none⟩)) ∧ w2.cell? ⟨n4, 1, none⟩ = some (.int .i64 0) ∧ w2.cell? ⟨n4, 2, none⟩ = some (.int .i64 1125899906842624)) ∧ w2.cell? ⟨n5, 0, none⟩ = some (.pointer (some ⟨g, 2, none⟩)) ∧ w2.cell? ⟨n5, 1, none⟩ = some (.int .i64 0) ∧ w2.cell? ⟨n5, 2, none⟩ = some (.int .i64 1099511627776)) (go_keep) (fail)
    go_wp2_with fail
    go_ret2
    exact ⟨_, rfl, (HB.out.alloc HB.out.size _).drew, FieldsLie.drew <| fieldsLie_new W _ g (fieldsK 11) _ HB.out.size⟩
  · have HH := Lib.hid h
    have HN := Lib.hid hn
    have hk : ∀ n : Int, 0 ≤ n → n ≤ 11 → (k == n) = false := fun n h0 h1 => by
      refine beq_eq_false_iff_ne.2 fun e => ?_
      subst e
      exact hn ⟨h0, h1⟩
    have k0 := hk 0 (by decide) (by decide)
    have k1 := hk 1 (by decide) (by decide)
    have k2 := hk 2 (by decide) (by decide)
    have k3 := hk 3 (by decide) (by decide)
    have k4 := hk 4 (by decide) (by decide)
    have k5 := hk 5 (by decide) (by decide)
    have k6 := hk 6 (by decide) (by decide)
    have k7 := hk 7 (by decide) (by decide)
    have k8 := hk 8 (by decide) (by decide)
    have k9 := hk 9 (by decide) (by decide)
    have k10 := hk 10 (by decide) (by decide)
    have k11 := hk 11 (by decide) (by decide)
    clear hk h hn
    go_wp2_with fail
    go_ret2
    refine ⟨none, ?_, HB.out, by rw [HH.out]; exact fieldsLie_none _ _ _ _⟩
    rw [HH.out, decide_eq_false HN.out]
    rfl
end Go.Proofs.YtiglignfjegilaaDoor
