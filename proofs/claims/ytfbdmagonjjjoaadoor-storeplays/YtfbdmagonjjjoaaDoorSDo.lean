/- What the statement's own Do makes of the stores: numbers, and its ways that draw no order. -/
import Derived.Test.YtfbdmagonjjjoaaDoorSDuo
import Derived.Test.YtfbdmagonjjjoaaDoorSActs
import Derived.Test.YtfbdmagonjjjoaaDoorSRoom
namespace Go.Proofs.YtfbdmagonjjjoaaDoor
open Go.RowKit Go.Maps

theorem used_bare {l : List FileM} (hr : Rising l) (n : ByteArray) (ys : List Int) : usedM (layF l ⟨n, ys, 0⟩) ≤ usedM l + ys.length := by
  have := used_layF hr n ys
  omega
theorem put_fits {room k : Int} {l : List FileM} (hr : Rising l) (n : ByteArray) (ys : List Int) : (faulty k l (putM room l n ys)).1.length ≤ l.length + 1 ∧ usedM (faulty k l (putM room l n ys)).1 ≤ usedM l + ys.length := by
  have h : ((putM room l n ys).1.length ≤ l.length + 1 ∧ usedM (putM room l n ys).1 ≤ usedM l + ys.length) := by
    unfold putM
    split
    · exact ⟨Nat.le_succ _, Nat.le_add_right _ _⟩
    · split
      · exact ⟨Nat.le_succ _, Nat.le_add_right _ _⟩
      · exact ⟨layF_length _ _, used_bare hr n ys⟩
  unfold faulty
  split
  · exact h
  · split
    · exact h
    · exact ⟨Nat.le_succ _, Nat.le_add_right _ _⟩
theorem used_append (a b : List FileM) : usedM (a ++ b) = usedM a + usedM b := by unfold usedM; rw [List.map_append, List.sum_append]
theorem gone_fits {k : Int} (l : List FileM) (n : ByteArray) : (faulty k l (removeM l n)).1.length ≤ l.length ∧ usedM (faulty k l (removeM l n)).1 ≤ usedM l := by
  have h : (removeM l n).1.length ≤ l.length ∧ usedM (removeM l n).1 ≤ usedM l := by
    unfold removeM
    split
    · exact ⟨Nat.le_refl _, Nat.le_refl _⟩
    · refine ⟨?_, ?_⟩
      · simp only [List.length_append, List.length_take, List.length_drop]
        omega
      · rw [used_append]
        have h1 : usedM (l.drop (findK l n + 1)) ≤ usedM (l.drop (findK l n)) := by
          have e : l.drop (findK l n + 1) = (l.drop (findK l n)).drop 1 := by rw [List.drop_drop]
          rw [e]
          have := used_append ((l.drop (findK l n)).take 1) ((l.drop (findK l n)).drop 1)
          rw [List.take_append_drop] at this
          omega
        have h2 := used_append (l.take (findK l n)) (l.drop (findK l n))
        rw [List.take_append_drop] at h2
        omega
  unfold faulty
  split
  · exact h
  · split
    · exact h
    · exact ⟨Nat.le_refl _, Nat.le_refl _⟩
theorem Duo.rising {w0 w : World} {p q o : Nat} {room : Int} {l l2 lo : List FileM} {bad bad2 : List Int} {A : Option Addr} {xs : List Int} {X : Nat → Option Obj} (h : Duo w0 w p q o room l bad l2 bad2 lo A xs X) : Rising l := by
  obtain ⟨S, T, O, fs, gs, os, rfl, h2, h3, hV, _⟩ := h
  exact hV.row.rising
/-- What Do leaves. -/
def DoLeft (w0 : World) (p q o : Nat) (room : Int) (l : List FileM) (bad : List Int) (lo : List FileM) (e : Ending) (w' : World) : Prop :=
  e = .returned (.bool true) ∧ ∃ l' bad', Duo w0 w' p q o room l' bad' l' bad' lo none [] (fun _ => none) ∧ l'.length ≤ l.length + 1 ∧ usedM l' ≤ usedM l + 500 ∧ bad'.length ≤ bad.length + 20
abbrev actBox (a : ActM) (A : Option Addr) (c : Nat) (B : Option Addr) (d : Nat) : Obj := .cells #[.int .i64 a.way, .string a.p, .slice A a.b.length c, .slice B a.l.length d] 35
abbrev actV (a : ActM) (A : Option Addr) (c : Nat) (B : Option Addr) (d : Nat) : Value := .agg #[.int .i64 a.way, .string a.p, .slice A a.b.length c, .slice B a.l.length d]
theorem box_cells {w : World} {g : Nat} {a : ActM} {A B : Option Addr} {c d : Nat} (h : w.heap[g]? = some (actBox a A c B d)) : w.cell? ⟨g, 0, none⟩ = some (.int .i64 a.way) ∧ w.cell? ⟨g, 1, none⟩ = some (.string a.p) ∧ w.cell? ⟨g, 2, none⟩ = some (.slice A a.b.length c) ∧ w.cell? ⟨g, 3, none⟩ = some (.slice B a.l.length d) := by
  refine ⟨?_, ?_, ?_, ?_⟩ <;> (unfold World.cell?; rw [h]; rfl)
theorem tail_le (bad : List Int) : bad.tail.length ≤ bad.length + 20 := by rw [List.length_tail]; omega
section
variable {w0 w : World} {p q o : Nat} {room : Int} {l lo : List FileM} {bad : List Int}
set_option maxHeartbeats 1600000 in
set_option maxRecDepth 4000 in
/-- Get, by both. -/
theorem do_get (h : Duo w0 w p q o room l bad l bad lo none [] (fun _ => none)) (hf : Fits l bad) (a : ActM) (A : Option Addr) (c : Nat) (B : Option Addr) (d : Nat) (hw : a.way = 1) (hn : a.p.size ≤ maxLen) :
    Calls Tryd.prog 11 #[.pointer (some ⟨p, 0, none⟩), .pointer (some ⟨q, 0, none⟩), actV a A c B d] w (DoLeft w0 p q o room l bad lo) := by
  have hx := h.box (actBox a A c B d)
  have bx := box_cells (hx.held (g := w.heap.size) (ob := actBox a A c B d) (if_pos rfl))
  have H1 := Lib.hid (duo_get hx hf a.p hn)
  have H2 : Hid (∀ (w1 : World) (C : Option Addr) (zs : List Int), Duo w0 w1 p q o room l bad.tail l bad lo C zs (fun g => if g = w.heap.size then some (actBox a A c B d) else none) → w1.cell? ⟨w.heap.size, 1, none⟩ = some (.string a.p) ∧ Calls Tryd.prog 20 #[.pointer (some ⟨q, 0, none⟩), .string a.p] w1 fun e w' => ∃ B c, e = .returned (.tuple #[.slice B (faultyG (bad.headD 0) (getM l a.p)).1.b.length c, .int .i64 (faultyG (bad.headD 0) (getM l a.p)).2]) ∧ (DoLeft w0 p q o room l bad lo (.returned (.bool true)) w' ∧ Lies .u8 w' w'.heap.size C zs) ∧ Lies .u8 w' w'.heap.size B (faultyG (bad.headD 0) (getM l a.p)).1.b) := Lib.hid fun w1 C zs hd => by
    refine ⟨(box_cells (hd.held (g := w.heap.size) (ob := actBox a A c B d) (if_pos rfl))).2.1, (duo_rget hd hf a.p hn).mono ?_⟩
    rintro e w' ⟨B, c, rfl, hd2, hl⟩
    exact ⟨B, c, rfl, ⟨⟨rfl, l, bad.tail, hd2.unbox, Nat.le_succ _, Nat.le_add_right _ _, tail_le bad⟩, hd2.lies⟩, hl⟩
  obtain ⟨e0, e1, _, _⟩ := bx
  rw [hw] at e0
  generalize faultyG (bad.headD 0) (getM l a.p) = r at *
  unfold actBox at e0 e1 H1 H2
  unfold actV
  rw [hw] at e1 H1 H2 ⊢
  have hnum := Lib.hid num_any
  obtain ⟨zs, hzs⟩ : ∃ zs, r.1.b = zs := ⟨_, rfl⟩
  rw [hzs] at H1 H2
  obtain ⟨er, her⟩ : ∃ er, r.2 = er := ⟨_, rfl⟩
  rw [her] at H1 H2
  have q1 : (er == er) = true := by simp
  clear h hx hf hn hw hzs her
  go_enter Tryd.func11, Tryd.ntmps11
  go_wp2_with fail
  refine H1.out.mono ?_
  rintro e w1 ⟨C, cc, rfl, hd⟩
  obtain ⟨f1, hc2⟩ := H2.out w1 _ _ hd
  have HC2 := Lib.hid hc2
  clear hc2 hd H1 H2 e0 e1
  go_wp2_with fail
  refine HC2.out.mono ?_
  rintro e w2 ⟨D, dd, rfl, ⟨hfin, hl1⟩, hl2⟩
  have k1 := conv_bytes (P := Tryd.prog) 32 9 5 Tryd.underlying32 Tryd.underlying5 Tryd.underlying9 hl1 cc
  have k2 := conv_bytes (P := Tryd.prog) 32 9 5 Tryd.underlying32 Tryd.underlying5 Tryd.underlying9 hl2 dd
  have FN := Lib.hid hfin
  clear HC2 hl1 hl2 hfin f1
  have q2 : ((textOf zs).toList == (textOf zs).toList) = true := by simp
  go_wp2_with (first | (go_at_call 15; refine (hnum.out _ _).mono ?_; rintro e w' ⟨rfl, rfl⟩))
  go_ret
  exact FN.out
end
end Go.Proofs.YtfbdmagonjjjoaaDoor
