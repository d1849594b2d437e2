/- What the statement's own do makes of the disks: Sync, Remove, Cut, Rename, Crash, and ways that are none. -/
import Derived.Test.YtefjbefmmmllbaaDoorDDuo
import Derived.Test.YtefjbefmmmllbaaDoorDActs
namespace Go.Proofs.YtefjbefmmmllbaaDoor
open Go.RowKit Go.Maps

theorem Few.mono {l l' : List FileM} {m m' : Nat} (h : Few l l' m) (hm : m ≤ m') : Few l l' m' := ⟨h.1, Nat.le_trans h.2 (Nat.add_le_add_left hm _)⟩
theorem Duo.fewer {w0 w : World} {p q o : Nat} {room : Int} {l l2 lo : List FileM} {A : Option Addr} {xs : List Int} {X X' : Nat → Option Obj} (h : Duo w0 w p q o room l l2 lo A xs X) (hX : ∀ g ob, X' g = some ob → X g = some ob) : Duo w0 w p q o room l l2 lo A xs X' := by
  obtain ⟨S, T, O, fs, gs, os, h1, h2, h3, hV, hR, hO, ha, hk, hl⟩ := h
  exact ⟨S, T, O, fs, gs, os, h1, h2, h3, hV, hR, hO, ha, hk, hl.1, fun g ob hg => hl.2 g ob (hX g ob hg)⟩
/-- What do leaves. -/
def DoLeft (w0 : World) (p q o : Nat) (room : Int) (l : List FileM) (lo : List FileM) (e : Ending) (w' : World) : Prop :=
  e = .returned (.bool true) ∧ ∃ l', Duo w0 w' p q o room l' l' lo none [] (fun _ => none) ∧ Few l l' 500
abbrev actBox (a : ActM) (A : Option Addr) (c : Nat) (B : Option Addr) (d : Nat) : Obj := .cells #[.int .i64 a.way, .int .i64 a.n, .string a.p, .string a.q, .slice A a.b.length c, .slice B a.l.length d] 35
abbrev actV (a : ActM) (A : Option Addr) (c : Nat) (B : Option Addr) (d : Nat) : Value := .agg #[.int .i64 a.way, .int .i64 a.n, .string a.p, .string a.q, .slice A a.b.length c, .slice B a.l.length d]
theorem box_cells {w : World} {g : Nat} {a : ActM} {A B : Option Addr} {c d : Nat} (h : w.heap[g]? = some (actBox a A c B d)) : w.cell? ⟨g, 0, none⟩ = some (.int .i64 a.way) ∧ w.cell? ⟨g, 1, none⟩ = some (.int .i64 a.n) ∧ w.cell? ⟨g, 2, none⟩ = some (.string a.p) ∧ w.cell? ⟨g, 3, none⟩ = some (.string a.q) ∧ w.cell? ⟨g, 4, none⟩ = some (.slice A a.b.length c) ∧ w.cell? ⟨g, 5, none⟩ = some (.slice B a.l.length d) := by
  refine ⟨?_, ?_, ?_, ?_, ?_, ?_⟩ <;> (unfold World.cell?; rw [h]; rfl)
section
variable {w0 w : World} {p q o : Nat} {room : Int} {l lo : List FileM}
set_option maxHeartbeats 3200000 in
set_option maxRecDepth 4000 in
/-- Sync, by both. -/
theorem do_sync (h : Duo w0 w p q o room l l lo none [] (fun _ => none)) (hf : Fits l) (a : ActM) (A : Option Addr) (c : Nat) (B : Option Addr) (d : Nat) (hw : a.way = 1) (hn : a.p.size ≤ maxLen) :
    Calls Tryd.prog 9 #[.pointer (some ⟨p, 0, none⟩), .pointer (some ⟨q, 0, none⟩), actV a A c B d] w (DoLeft w0 p q o room l lo) := by
  have hx := h.box (actBox a A c B d)
  have bx := box_cells (hx.held (g := w.heap.size) (ob := actBox a A c B d) (if_pos rfl))
  have HP : Hid (∀ (w1 : World) (l2 : List FileM), Duo w0 w1 p q o room l l2 lo none [] (fun g => if g = w.heap.size then some (actBox a A c B d) else none) → Calls Tryd.prog 17 #[.pointer (some ⟨p, 0, none⟩), .string a.p] w1 fun e w' => e = .returned (.int .i64 (syncM l a.p).2) ∧ (w'.cell? ⟨w.heap.size, 2, none⟩ = some (.string a.p)) ∧ Duo w0 w' p q o room (syncM l a.p).1 l2 lo none [] (fun g => if g = w.heap.size then some (actBox a A c B d) else none)) := Lib.hid fun w1 l2 hd => by
    refine (duo_sync hd hf a.p hn).mono ?_
    rintro e w' ⟨rfl, hd2⟩
    exact ⟨rfl, (box_cells (hd2.held (g := w.heap.size) (ob := actBox a A c B d) (if_pos rfl))).2.2.1, hd2⟩
  have HQ : Hid (∀ (w1 : World) (l1 : List FileM), Duo w0 w1 p q o room l1 l lo none [] (fun g => if g = w.heap.size then some (actBox a A c B d) else none) → Calls Tryd.prog 18 #[.pointer (some ⟨q, 0, none⟩), .string a.p] w1 fun e w' => e = .returned (.int .i64 (syncM l a.p).2) ∧ (w'.cell? ⟨w.heap.size, 2, none⟩ = some (.string a.p)) ∧ Duo w0 w' p q o room l1 (syncM l a.p).1 lo none [] (fun g => if g = w.heap.size then some (actBox a A c B d) else none)) := Lib.hid fun w1 l1 hd => by
    refine (duo_rsync hd hf a.p hn).mono ?_
    rintro e w' ⟨rfl, hd2⟩
    exact ⟨rfl, (box_cells (hd2.held (g := w.heap.size) (ob := actBox a A c B d) (if_pos rfl))).2.2.1, hd2⟩
  have hg := sync_few l a.p
  have HFIN : Hid (∀ w1 : World, Duo w0 w1 p q o room (syncM l a.p).1 (syncM l a.p).1 lo none [] (fun g => if g = w.heap.size then some (actBox a A c B d) else none) → DoLeft w0 p q o room l lo (.returned (.bool true)) w1) := Lib.hid fun w1 hd => ⟨rfl, _, hd.unbox, hg.mono (by omega)⟩
  have D := Lib.hid (hx.below (w' := (w.alloc (actBox a A c B d)).drew) ⟨rfl, rfl, rfl, Nat.le_refl _, fun _ _ => rfl⟩)
  obtain ⟨e0, e1, e2, e3, e4, _⟩ := bx
  rw [hw] at e0
  generalize syncM l a.p = r at *
  obtain ⟨l', er⟩ := r
  dsimp only at HP HQ HFIN
  unfold actBox at e0 e1 e2 e3 e4 HP HQ HFIN D
  unfold actV
  rw [hw] at e1 e2 e3 e4 HP HQ HFIN D ⊢
  have HNUM := Lib.hid num_any
  have q1 : (er == er) = true := by simp
  clear h hx hf hw hg
  go_enter Tryd.func9, Tryd.ntmps9
  go_wp2_with fail
  refine wp_region_held_drew (S := fun w1 => (w1.cell? ⟨w.heap.size, 2, none⟩ = some (.string a.p))) (by kernel_rfl) e2 (fun hHeld => ?_)
  clear e0 e1 e2 e3 e4
  refine held_take 0 47 (v := ?v1) rfl rfl (by kernel_rfl) (by kernel_rfl) (by kernel_rfl) (fun _ _ _ h => h) hHeld (Or.inl ⟨by rfl, ?y1⟩) ?r1
  case y1 => intro w hSw; (try dsimp only at hSw); go_simp; (try with_reducible rfl)
  simp only [List.setIfInBounds_toArray, List.set_cons_zero, List.set_cons_succ]
  refine held_take 1 48 (v := ?v2) rfl rfl (by kernel_rfl) (by kernel_rfl) (by kernel_rfl) (fun _ _ _ h => h) hHeld (Or.inl ⟨by rfl, ?y2⟩) ?r2
  case y2 => intro w hSw; (try dsimp only at hSw); go_simp; (try with_reducible rfl)
  simp only [List.setIfInBounds_toArray, List.set_cons_zero, List.set_cons_succ]
  refine held_take 2 49 (v := ?v3) rfl rfl (by kernel_rfl) (by kernel_rfl) (by kernel_rfl) (fun _ _ _ h => h) hHeld (Or.inl ⟨by rfl, ?y3⟩) ?r3
  case y3 => intro w hSw; (try dsimp only at hSw); go_simp; (try with_reducible rfl)
  simp only [List.setIfInBounds_toArray, List.set_cons_zero, List.set_cons_succ]
  refine held_take 5 52 (v := ?v4) rfl rfl (by kernel_rfl) (by kernel_rfl) (by kernel_rfl) (fun _ _ _ h => h) hHeld (Or.inl ⟨by rfl, ?y4⟩) ?r4
  case y4 => intro w hSw; (try dsimp only at hSw); go_simp; (try with_reducible rfl)
  simp only [List.setIfInBounds_toArray, List.set_cons_zero, List.set_cons_succ]
  refine held_take 6 53 (v := ?v5) rfl rfl (by kernel_rfl) (by kernel_rfl) (by kernel_rfl) (fun _ _ _ h => h) hHeld (Or.inl ⟨by rfl, ?y5⟩) ?r5
  case y5 => intro w hSw; (try dsimp only at hSw); go_simp; (try with_reducible rfl)
  simp only [List.setIfInBounds_toArray, List.set_cons_zero, List.set_cons_succ]
  refine held_take 7 54 (v := ?v6) rfl rfl (by kernel_rfl) (by kernel_rfl) (by kernel_rfl) (fun _ _ _ h => h) hHeld (Or.inl ⟨by rfl, ?y6⟩) ?r6
  case y6 => intro w hSw; (try dsimp only at hSw); go_simp; (try with_reducible rfl)
  simp only [List.setIfInBounds_toArray, List.set_cons_zero, List.set_cons_succ]
  refine wpAnyH_ready (rs := [3]) (by kernel_rfl) (by simp) ?_
  refine AllReadyH.cons (o := ⟨some 50, _, _, _, _, _⟩) rfl (fun K hK => ?_) AllReadyH.nil
  rw [if_pos (by rfl)]
  go_simp
  refine (HP.out _ _ D.out).mono ?_
  rintro e w' ⟨rfl, hs, hd⟩
  clear D
  have D := Lib.hid hd
  clear hd
  refine hK.out _ _ hs (fun hHeld => ?_)
  clear hK K
  (try simp only [Act.put, List.setIfInBounds_toArray, List.set_cons_zero, List.set_cons_succ])
  refine wpAnyH_ready (rs := [4]) (by kernel_rfl) (by simp) ?_
  refine AllReadyH.cons (o := ⟨some 51, _, _, _, _, _⟩) rfl (fun K hK => ?_) AllReadyH.nil
  rw [if_pos (by rfl)]
  go_simp
  refine (HNUM.out _ _).mono ?_
  rintro e w' ⟨rfl, rfl⟩
  refine hK.out _ _ hHeld (fun hHeld => ?_)
  clear hK K
  (try simp only [Act.put, List.setIfInBounds_toArray, List.set_cons_zero, List.set_cons_succ])
  refine wpAnyH_ready (rs := [8]) (by kernel_rfl) (by simp) ?_
  refine AllReadyH.cons (o := ⟨some 55, _, _, _, _, _⟩) rfl (fun K hK => ?_) AllReadyH.nil
  rw [if_pos (by rfl)]
  go_simp
  refine (HQ.out _ _ D.out).mono ?_
  rintro e w' ⟨rfl, hs, hd⟩
  clear D
  have D := Lib.hid hd
  clear hd
  refine hK.out _ _ hs (fun hHeld => ?_)
  clear hK K
  (try simp only [Act.put, List.setIfInBounds_toArray, List.set_cons_zero, List.set_cons_succ])
  refine held_take 9 56 (v := ?v7) rfl rfl (by kernel_rfl) (by kernel_rfl) (by kernel_rfl) (fun _ _ _ h => h) hHeld (Or.inl ⟨by rfl, ?y7⟩) ?r7
  case y7 => intro w hSw; (try dsimp only at hSw); go_simp; (try with_reducible rfl)
  simp only [List.setIfInBounds_toArray, List.set_cons_zero, List.set_cons_succ]
  refine held_take 10 6 (v := ?v8) rfl rfl (by kernel_rfl) (by kernel_rfl) (by kernel_rfl) (fun _ _ _ h => h) hHeld (Or.inl ⟨by rfl, ?y8⟩) ?r8
  case y8 => intro w hSw; (try dsimp only at hSw); go_simp; (try with_reducible rfl)
  simp only [List.setIfInBounds_toArray, List.set_cons_zero, List.set_cons_succ]
  refine wpAnyH_done (by kernel_rfl) ?_ _
  have FN := HFIN.out _ D.out
  have HFN := Lib.hid FN
  clear FN D hHeld
  go_wp2
  go_ret
  exact HFN.out
set_option maxHeartbeats 3200000 in
set_option maxRecDepth 4000 in
/-- Remove, by both. -/
theorem do_remove (h : Duo w0 w p q o room l l lo none [] (fun _ => none)) (hf : Fits l) (a : ActM) (A : Option Addr) (c : Nat) (B : Option Addr) (d : Nat) (hw : a.way = 4) (hn : a.p.size ≤ maxLen) :
    Calls Tryd.prog 9 #[.pointer (some ⟨p, 0, none⟩), .pointer (some ⟨q, 0, none⟩), actV a A c B d] w (DoLeft w0 p q o room l lo) := by
  have hx := h.box (actBox a A c B d)
  have bx := box_cells (hx.held (g := w.heap.size) (ob := actBox a A c B d) (if_pos rfl))
  have HP : Hid (∀ (w1 : World) (l2 : List FileM), Duo w0 w1 p q o room l l2 lo none [] (fun g => if g = w.heap.size then some (actBox a A c B d) else none) → Calls Tryd.prog 23 #[.pointer (some ⟨p, 0, none⟩), .string a.p] w1 fun e w' => e = .returned (.int .i64 (removeM l a.p).2) ∧ (w'.cell? ⟨w.heap.size, 2, none⟩ = some (.string a.p)) ∧ Duo w0 w' p q o room (removeM l a.p).1 l2 lo none [] (fun g => if g = w.heap.size then some (actBox a A c B d) else none)) := Lib.hid fun w1 l2 hd => by
    refine (duo_remove hd hf a.p hn).mono ?_
    rintro e w' ⟨rfl, hd2⟩
    exact ⟨rfl, (box_cells (hd2.held (g := w.heap.size) (ob := actBox a A c B d) (if_pos rfl))).2.2.1, hd2⟩
  have HQ : Hid (∀ (w1 : World) (l1 : List FileM), Duo w0 w1 p q o room l1 l lo none [] (fun g => if g = w.heap.size then some (actBox a A c B d) else none) → Calls Tryd.prog 24 #[.pointer (some ⟨q, 0, none⟩), .string a.p] w1 fun e w' => e = .returned (.int .i64 (removeM l a.p).2) ∧ (w'.cell? ⟨w.heap.size, 2, none⟩ = some (.string a.p)) ∧ Duo w0 w' p q o room l1 (removeM l a.p).1 lo none [] (fun g => if g = w.heap.size then some (actBox a A c B d) else none)) := Lib.hid fun w1 l1 hd => by
    refine (duo_rremove hd hf a.p hn).mono ?_
    rintro e w' ⟨rfl, hd2⟩
    exact ⟨rfl, (box_cells (hd2.held (g := w.heap.size) (ob := actBox a A c B d) (if_pos rfl))).2.2.1, hd2⟩
  have hg := remove_few l a.p
  have HFIN : Hid (∀ w1 : World, Duo w0 w1 p q o room (removeM l a.p).1 (removeM l a.p).1 lo none [] (fun g => if g = w.heap.size then some (actBox a A c B d) else none) → DoLeft w0 p q o room l lo (.returned (.bool true)) w1) := Lib.hid fun w1 hd => ⟨rfl, _, hd.unbox, hg.mono (by omega)⟩
  have D := Lib.hid (hx.below (w' := (w.alloc (actBox a A c B d)).drew) ⟨rfl, rfl, rfl, Nat.le_refl _, fun _ _ => rfl⟩)
  obtain ⟨e0, e1, e2, e3, e4, _⟩ := bx
  rw [hw] at e0
  generalize removeM l a.p = r at *
  obtain ⟨l', er⟩ := r
  dsimp only at HP HQ HFIN
  unfold actBox at e0 e1 e2 e3 e4 HP HQ HFIN D
  unfold actV
  rw [hw] at e1 e2 e3 e4 HP HQ HFIN D ⊢
  have HNUM := Lib.hid num_any
  have q1 : (er == er) = true := by simp
  clear h hx hf hw hg
  go_enter Tryd.func9, Tryd.ntmps9
  go_wp2_with fail
  refine wp_region_held_drew (S := fun w1 => (w1.cell? ⟨w.heap.size, 2, none⟩ = some (.string a.p))) (by kernel_rfl) e2 (fun hHeld => ?_)
  clear e0 e1 e2 e3 e4
  refine held_take 0 91 (v := ?v9) rfl rfl (by kernel_rfl) (by kernel_rfl) (by kernel_rfl) (fun _ _ _ h => h) hHeld (Or.inl ⟨by rfl, ?y9⟩) ?r9
  case y9 => intro w hSw; (try dsimp only at hSw); go_simp; (try with_reducible rfl)
  simp only [List.setIfInBounds_toArray, List.set_cons_zero, List.set_cons_succ]
  refine held_take 1 92 (v := ?v10) rfl rfl (by kernel_rfl) (by kernel_rfl) (by kernel_rfl) (fun _ _ _ h => h) hHeld (Or.inl ⟨by rfl, ?y10⟩) ?r10
  case y10 => intro w hSw; (try dsimp only at hSw); go_simp; (try with_reducible rfl)
  simp only [List.setIfInBounds_toArray, List.set_cons_zero, List.set_cons_succ]
  refine held_take 2 93 (v := ?v11) rfl rfl (by kernel_rfl) (by kernel_rfl) (by kernel_rfl) (fun _ _ _ h => h) hHeld (Or.inl ⟨by rfl, ?y11⟩) ?r11
  case y11 => intro w hSw; (try dsimp only at hSw); go_simp; (try with_reducible rfl)
  simp only [List.setIfInBounds_toArray, List.set_cons_zero, List.set_cons_succ]
  refine held_take 5 96 (v := ?v12) rfl rfl (by kernel_rfl) (by kernel_rfl) (by kernel_rfl) (fun _ _ _ h => h) hHeld (Or.inl ⟨by rfl, ?y12⟩) ?r12
  case y12 => intro w hSw; (try dsimp only at hSw); go_simp; (try with_reducible rfl)
  simp only [List.setIfInBounds_toArray, List.set_cons_zero, List.set_cons_succ]
  refine held_take 6 97 (v := ?v13) rfl rfl (by kernel_rfl) (by kernel_rfl) (by kernel_rfl) (fun _ _ _ h => h) hHeld (Or.inl ⟨by rfl, ?y13⟩) ?r13
  case y13 => intro w hSw; (try dsimp only at hSw); go_simp; (try with_reducible rfl)
  simp only [List.setIfInBounds_toArray, List.set_cons_zero, List.set_cons_succ]
  refine held_take 7 98 (v := ?v14) rfl rfl (by kernel_rfl) (by kernel_rfl) (by kernel_rfl) (fun _ _ _ h => h) hHeld (Or.inl ⟨by rfl, ?y14⟩) ?r14
  case y14 => intro w hSw; (try dsimp only at hSw); go_simp; (try with_reducible rfl)
  simp only [List.setIfInBounds_toArray, List.set_cons_zero, List.set_cons_succ]
  refine wpAnyH_ready (rs := [3]) (by kernel_rfl) (by simp) ?_
  refine AllReadyH.cons (o := ⟨some 94, _, _, _, _, _⟩) rfl (fun K hK => ?_) AllReadyH.nil
  rw [if_pos (by rfl)]
  go_simp
  refine (HP.out _ _ D.out).mono ?_
  rintro e w' ⟨rfl, hs, hd⟩
  clear D
  have D := Lib.hid hd
  clear hd
  refine hK.out _ _ hs (fun hHeld => ?_)
  clear hK K
  (try simp only [Act.put, List.setIfInBounds_toArray, List.set_cons_zero, List.set_cons_succ])
  refine wpAnyH_ready (rs := [4]) (by kernel_rfl) (by simp) ?_
  refine AllReadyH.cons (o := ⟨some 95, _, _, _, _, _⟩) rfl (fun K hK => ?_) AllReadyH.nil
  rw [if_pos (by rfl)]
  go_simp
  refine (HNUM.out _ _).mono ?_
  rintro e w' ⟨rfl, rfl⟩
  refine hK.out _ _ hHeld (fun hHeld => ?_)
  clear hK K
  (try simp only [Act.put, List.setIfInBounds_toArray, List.set_cons_zero, List.set_cons_succ])
  refine wpAnyH_ready (rs := [8]) (by kernel_rfl) (by simp) ?_
  refine AllReadyH.cons (o := ⟨some 99, _, _, _, _, _⟩) rfl (fun K hK => ?_) AllReadyH.nil
  rw [if_pos (by rfl)]
  go_simp
  refine (HQ.out _ _ D.out).mono ?_
  rintro e w' ⟨rfl, hs, hd⟩
  clear D
  have D := Lib.hid hd
  clear hd
  refine hK.out _ _ hs (fun hHeld => ?_)
  clear hK K
  (try simp only [Act.put, List.setIfInBounds_toArray, List.set_cons_zero, List.set_cons_succ])
  refine held_take 9 100 (v := ?v15) rfl rfl (by kernel_rfl) (by kernel_rfl) (by kernel_rfl) (fun _ _ _ h => h) hHeld (Or.inl ⟨by rfl, ?y15⟩) ?r15
  case y15 => intro w hSw; (try dsimp only at hSw); go_simp; (try with_reducible rfl)
  simp only [List.setIfInBounds_toArray, List.set_cons_zero, List.set_cons_succ]
  refine held_take 10 6 (v := ?v16) rfl rfl (by kernel_rfl) (by kernel_rfl) (by kernel_rfl) (fun _ _ _ h => h) hHeld (Or.inl ⟨by rfl, ?y16⟩) ?r16
  case y16 => intro w hSw; (try dsimp only at hSw); go_simp; (try with_reducible rfl)
  simp only [List.setIfInBounds_toArray, List.set_cons_zero, List.set_cons_succ]
  refine wpAnyH_done (by kernel_rfl) ?_ _
  have FN := HFIN.out _ D.out
  have HFN := Lib.hid FN
  clear FN D hHeld
  go_wp2
  go_ret
  exact HFN.out
set_option maxHeartbeats 3200000 in
set_option maxRecDepth 4000 in
/-- Cut, by both. -/
theorem do_cut (h : Duo w0 w p q o room l l lo none [] (fun _ => none)) (hf : Fits l) (a : ActM) (A : Option Addr) (c : Nat) (B : Option Addr) (d : Nat) (hw : a.way = 2) (hn : a.p.size ≤ maxLen) :
    Calls Tryd.prog 9 #[.pointer (some ⟨p, 0, none⟩), .pointer (some ⟨q, 0, none⟩), actV a A c B d] w (DoLeft w0 p q o room l lo) := by
  have hx := h.box (actBox a A c B d)
  have bx := box_cells (hx.held (g := w.heap.size) (ob := actBox a A c B d) (if_pos rfl))
  have HP : Hid (∀ (w1 : World) (l2 : List FileM), Duo w0 w1 p q o room l l2 lo none [] (fun g => if g = w.heap.size then some (actBox a A c B d) else none) → Calls Tryd.prog 19 #[.pointer (some ⟨p, 0, none⟩), .string a.p, .int .i64 a.n] w1 fun e w' => e = .returned (.int .i64 (cutM l a.p a.n).2) ∧ (w'.cell? ⟨w.heap.size, 1, none⟩ = some (.int .i64 a.n) ∧ w'.cell? ⟨w.heap.size, 2, none⟩ = some (.string a.p)) ∧ Duo w0 w' p q o room (cutM l a.p a.n).1 l2 lo none [] (fun g => if g = w.heap.size then some (actBox a A c B d) else none)) := Lib.hid fun w1 l2 hd => by
    refine (duo_cut hd hf a.p a.n hn).mono ?_
    rintro e w' ⟨rfl, hd2⟩
    exact ⟨rfl, ⟨(box_cells (hd2.held (g := w.heap.size) (ob := actBox a A c B d) (if_pos rfl))).2.1, (box_cells (hd2.held (g := w.heap.size) (ob := actBox a A c B d) (if_pos rfl))).2.2.1⟩, hd2⟩
  have HQ : Hid (∀ (w1 : World) (l1 : List FileM), Duo w0 w1 p q o room l1 l lo none [] (fun g => if g = w.heap.size then some (actBox a A c B d) else none) → Calls Tryd.prog 20 #[.pointer (some ⟨q, 0, none⟩), .string a.p, .int .i64 a.n] w1 fun e w' => e = .returned (.int .i64 (cutM l a.p a.n).2) ∧ (w'.cell? ⟨w.heap.size, 1, none⟩ = some (.int .i64 a.n) ∧ w'.cell? ⟨w.heap.size, 2, none⟩ = some (.string a.p)) ∧ Duo w0 w' p q o room l1 (cutM l a.p a.n).1 lo none [] (fun g => if g = w.heap.size then some (actBox a A c B d) else none)) := Lib.hid fun w1 l1 hd => by
    refine (duo_rcut hd hf a.p a.n hn).mono ?_
    rintro e w' ⟨rfl, hd2⟩
    exact ⟨rfl, ⟨(box_cells (hd2.held (g := w.heap.size) (ob := actBox a A c B d) (if_pos rfl))).2.1, (box_cells (hd2.held (g := w.heap.size) (ob := actBox a A c B d) (if_pos rfl))).2.2.1⟩, hd2⟩
  have hg := cut_few l a.p a.n
  have HFIN : Hid (∀ w1 : World, Duo w0 w1 p q o room (cutM l a.p a.n).1 (cutM l a.p a.n).1 lo none [] (fun g => if g = w.heap.size then some (actBox a A c B d) else none) → DoLeft w0 p q o room l lo (.returned (.bool true)) w1) := Lib.hid fun w1 hd => ⟨rfl, _, hd.unbox, hg.mono (by omega)⟩
  have D := Lib.hid (hx.below (w' := (w.alloc (actBox a A c B d)).drew) ⟨rfl, rfl, rfl, Nat.le_refl _, fun _ _ => rfl⟩)
  obtain ⟨e0, e1, e2, e3, e4, _⟩ := bx
  rw [hw] at e0
  generalize cutM l a.p a.n = r at *
  obtain ⟨l', er⟩ := r
  dsimp only at HP HQ HFIN
  unfold actBox at e0 e1 e2 e3 e4 HP HQ HFIN D
  unfold actV
  rw [hw] at e1 e2 e3 e4 HP HQ HFIN D ⊢
  have HNUM := Lib.hid num_any
  have q1 : (er == er) = true := by simp
  clear h hx hf hw hg
  go_enter Tryd.func9, Tryd.ntmps9
  go_wp2_with fail
  refine wp_region_held_drew (S := fun w1 => (w1.cell? ⟨w.heap.size, 1, none⟩ = some (.int .i64 a.n) ∧ w1.cell? ⟨w.heap.size, 2, none⟩ = some (.string a.p))) (by kernel_rfl) ⟨e1, e2⟩ (fun hHeld => ?_)
  clear e0 e1 e2 e3 e4
  refine held_take 0 59 (v := ?v17) rfl rfl (by kernel_rfl) (by kernel_rfl) (by kernel_rfl) (fun _ _ _ h => h) hHeld (Or.inl ⟨by rfl, ?y17⟩) ?r17
  case y17 => intro w hSw; (try dsimp only at hSw); go_simp; (try with_reducible rfl)
  simp only [List.setIfInBounds_toArray, List.set_cons_zero, List.set_cons_succ]
  refine held_take 1 60 (v := ?v18) rfl rfl (by kernel_rfl) (by kernel_rfl) (by kernel_rfl) (fun _ _ _ h => h) hHeld (Or.inl ⟨by rfl, ?y18⟩) ?r18
  case y18 => intro w hSw; (try dsimp only at hSw); go_simp; (try with_reducible rfl)
  simp only [List.setIfInBounds_toArray, List.set_cons_zero, List.set_cons_succ]
  refine held_take 2 61 (v := ?v19) rfl rfl (by kernel_rfl) (by kernel_rfl) (by kernel_rfl) (fun _ _ _ h => h) hHeld (Or.inl ⟨by rfl, ?y19⟩) ?r19
  case y19 => intro w hSw; (try dsimp only at hSw); go_simp; (try with_reducible rfl)
  simp only [List.setIfInBounds_toArray, List.set_cons_zero, List.set_cons_succ]
  refine held_take 3 62 (v := ?v20) rfl rfl (by kernel_rfl) (by kernel_rfl) (by kernel_rfl) (fun _ _ _ h => h) hHeld (Or.inl ⟨by rfl, ?y20⟩) ?r20
  case y20 => intro w hSw; (try dsimp only at hSw); go_simp; (try with_reducible rfl)
  simp only [List.setIfInBounds_toArray, List.set_cons_zero, List.set_cons_succ]
  refine held_take 4 63 (v := ?v21) rfl rfl (by kernel_rfl) (by kernel_rfl) (by kernel_rfl) (fun _ _ _ h => h) hHeld (Or.inl ⟨by rfl, ?y21⟩) ?r21
  case y21 => intro w hSw; (try dsimp only at hSw); go_simp; (try with_reducible rfl)
  simp only [List.setIfInBounds_toArray, List.set_cons_zero, List.set_cons_succ]
  refine held_take 7 66 (v := ?v22) rfl rfl (by kernel_rfl) (by kernel_rfl) (by kernel_rfl) (fun _ _ _ h => h) hHeld (Or.inl ⟨by rfl, ?y22⟩) ?r22
  case y22 => intro w hSw; (try dsimp only at hSw); go_simp; (try with_reducible rfl)
  simp only [List.setIfInBounds_toArray, List.set_cons_zero, List.set_cons_succ]
  refine held_take 8 67 (v := ?v23) rfl rfl (by kernel_rfl) (by kernel_rfl) (by kernel_rfl) (fun _ _ _ h => h) hHeld (Or.inl ⟨by rfl, ?y23⟩) ?r23
  case y23 => intro w hSw; (try dsimp only at hSw); go_simp; (try with_reducible rfl)
  simp only [List.setIfInBounds_toArray, List.set_cons_zero, List.set_cons_succ]
  refine held_take 9 68 (v := ?v24) rfl rfl (by kernel_rfl) (by kernel_rfl) (by kernel_rfl) (fun _ _ _ h => h) hHeld (Or.inl ⟨by rfl, ?y24⟩) ?r24
  case y24 => intro w hSw; (try dsimp only at hSw); go_simp; (try with_reducible rfl)
  simp only [List.setIfInBounds_toArray, List.set_cons_zero, List.set_cons_succ]
  refine held_take 10 69 (v := ?v25) rfl rfl (by kernel_rfl) (by kernel_rfl) (by kernel_rfl) (fun _ _ _ h => h) hHeld (Or.inl ⟨by rfl, ?y25⟩) ?r25
  case y25 => intro w hSw; (try dsimp only at hSw); go_simp; (try with_reducible rfl)
  simp only [List.setIfInBounds_toArray, List.set_cons_zero, List.set_cons_succ]
  refine held_take 11 70 (v := ?v26) rfl rfl (by kernel_rfl) (by kernel_rfl) (by kernel_rfl) (fun _ _ _ h => h) hHeld (Or.inl ⟨by rfl, ?y26⟩) ?r26
  case y26 => intro w hSw; (try dsimp only at hSw); go_simp; (try with_reducible rfl)
  simp only [List.setIfInBounds_toArray, List.set_cons_zero, List.set_cons_succ]
  refine wpAnyH_ready (rs := [5]) (by kernel_rfl) (by simp) ?_
  refine AllReadyH.cons (o := ⟨some 64, _, _, _, _, _⟩) rfl (fun K hK => ?_) AllReadyH.nil
  rw [if_pos (by rfl)]
  go_simp
  refine (HP.out _ _ D.out).mono ?_
  rintro e w' ⟨rfl, hs, hd⟩
  clear D
  have D := Lib.hid hd
  clear hd
  refine hK.out _ _ hs (fun hHeld => ?_)
  clear hK K
  (try simp only [Act.put, List.setIfInBounds_toArray, List.set_cons_zero, List.set_cons_succ])
  refine wpAnyH_ready (rs := [6]) (by kernel_rfl) (by simp) ?_
  refine AllReadyH.cons (o := ⟨some 65, _, _, _, _, _⟩) rfl (fun K hK => ?_) AllReadyH.nil
  rw [if_pos (by rfl)]
  go_simp
  refine (HNUM.out _ _).mono ?_
  rintro e w' ⟨rfl, rfl⟩
  refine hK.out _ _ hHeld (fun hHeld => ?_)
  clear hK K
  (try simp only [Act.put, List.setIfInBounds_toArray, List.set_cons_zero, List.set_cons_succ])
  refine wpAnyH_ready (rs := [12]) (by kernel_rfl) (by simp) ?_
  refine AllReadyH.cons (o := ⟨some 71, _, _, _, _, _⟩) rfl (fun K hK => ?_) AllReadyH.nil
  rw [if_pos (by rfl)]
  go_simp
  refine (HQ.out _ _ D.out).mono ?_
  rintro e w' ⟨rfl, hs, hd⟩
  clear D
  have D := Lib.hid hd
  clear hd
  refine hK.out _ _ hs (fun hHeld => ?_)
  clear hK K
  (try simp only [Act.put, List.setIfInBounds_toArray, List.set_cons_zero, List.set_cons_succ])
  refine held_take 13 72 (v := ?v27) rfl rfl (by kernel_rfl) (by kernel_rfl) (by kernel_rfl) (fun _ _ _ h => h) hHeld (Or.inl ⟨by rfl, ?y27⟩) ?r27
  case y27 => intro w hSw; (try dsimp only at hSw); go_simp; (try with_reducible rfl)
  simp only [List.setIfInBounds_toArray, List.set_cons_zero, List.set_cons_succ]
  refine held_take 14 6 (v := ?v28) rfl rfl (by kernel_rfl) (by kernel_rfl) (by kernel_rfl) (fun _ _ _ h => h) hHeld (Or.inl ⟨by rfl, ?y28⟩) ?r28
  case y28 => intro w hSw; (try dsimp only at hSw); go_simp; (try with_reducible rfl)
  simp only [List.setIfInBounds_toArray, List.set_cons_zero, List.set_cons_succ]
  refine wpAnyH_done (by kernel_rfl) ?_ _
  have FN := HFIN.out _ D.out
  have HFN := Lib.hid FN
  clear FN D hHeld
  go_wp2
  go_ret
  exact HFN.out
set_option maxHeartbeats 3200000 in
set_option maxRecDepth 4000 in
/-- Rename, by both. -/
theorem do_rename (h : Duo w0 w p q o room l l lo none [] (fun _ => none)) (hf : Fits l) (a : ActM) (A : Option Addr) (c : Nat) (B : Option Addr) (d : Nat) (hw : a.way = 3) (hn : a.p.size ≤ 100) (hm : a.q.size ≤ 100) :
    Calls Tryd.prog 9 #[.pointer (some ⟨p, 0, none⟩), .pointer (some ⟨q, 0, none⟩), actV a A c B d] w (DoLeft w0 p q o room l lo) := by
  have hx := h.box (actBox a A c B d)
  have bx := box_cells (hx.held (g := w.heap.size) (ob := actBox a A c B d) (if_pos rfl))
  have HP : Hid (∀ (w1 : World) (l2 : List FileM), Duo w0 w1 p q o room l l2 lo none [] (fun g => if g = w.heap.size then some (actBox a A c B d) else none) → Calls Tryd.prog 21 #[.pointer (some ⟨p, 0, none⟩), .string a.p, .string a.q] w1 fun e w' => e = .returned (.int .i64 (renameM l a.p a.q).2) ∧ (w'.cell? ⟨w.heap.size, 2, none⟩ = some (.string a.p) ∧ w'.cell? ⟨w.heap.size, 3, none⟩ = some (.string a.q)) ∧ Duo w0 w' p q o room (renameM l a.p a.q).1 l2 lo none [] (fun g => if g = w.heap.size then some (actBox a A c B d) else none)) := Lib.hid fun w1 l2 hd => by
    refine (duo_rename hd hf a.p a.q (by omega) (by omega)).mono ?_
    rintro e w' ⟨rfl, hd2⟩
    exact ⟨rfl, ⟨(box_cells (hd2.held (g := w.heap.size) (ob := actBox a A c B d) (if_pos rfl))).2.2.1, (box_cells (hd2.held (g := w.heap.size) (ob := actBox a A c B d) (if_pos rfl))).2.2.2.1⟩, hd2⟩
  have HQ : Hid (∀ (w1 : World) (l1 : List FileM), Duo w0 w1 p q o room l1 l lo none [] (fun g => if g = w.heap.size then some (actBox a A c B d) else none) → Calls Tryd.prog 22 #[.pointer (some ⟨q, 0, none⟩), .string a.p, .string a.q] w1 fun e w' => e = .returned (.int .i64 (renameM l a.p a.q).2) ∧ (w'.cell? ⟨w.heap.size, 2, none⟩ = some (.string a.p) ∧ w'.cell? ⟨w.heap.size, 3, none⟩ = some (.string a.q)) ∧ Duo w0 w' p q o room l1 (renameM l a.p a.q).1 lo none [] (fun g => if g = w.heap.size then some (actBox a A c B d) else none)) := Lib.hid fun w1 l1 hd => by
    refine (duo_rrename hd hf a.p a.q (by omega) (by omega)).mono ?_
    rintro e w' ⟨rfl, hd2⟩
    exact ⟨rfl, ⟨(box_cells (hd2.held (g := w.heap.size) (ob := actBox a A c B d) (if_pos rfl))).2.2.1, (box_cells (hd2.held (g := w.heap.size) (ob := actBox a A c B d) (if_pos rfl))).2.2.2.1⟩, hd2⟩
  have hg := rename_few l a.p a.q
  have HFIN : Hid (∀ w1 : World, Duo w0 w1 p q o room (renameM l a.p a.q).1 (renameM l a.p a.q).1 lo none [] (fun g => if g = w.heap.size then some (actBox a A c B d) else none) → DoLeft w0 p q o room l lo (.returned (.bool true)) w1) := Lib.hid fun w1 hd => ⟨rfl, _, hd.unbox, hg.mono (by omega)⟩
  have D := Lib.hid (hx.below (w' := (w.alloc (actBox a A c B d)).drew) ⟨rfl, rfl, rfl, Nat.le_refl _, fun _ _ => rfl⟩)
  obtain ⟨e0, e1, e2, e3, e4, _⟩ := bx
  rw [hw] at e0
  generalize renameM l a.p a.q = r at *
  obtain ⟨l', er⟩ := r
  dsimp only at HP HQ HFIN
  unfold actBox at e0 e1 e2 e3 e4 HP HQ HFIN D
  unfold actV
  rw [hw] at e1 e2 e3 e4 HP HQ HFIN D ⊢
  have HNUM := Lib.hid num_any
  have q1 : (er == er) = true := by simp
  clear h hx hf hw hg
  go_enter Tryd.func9, Tryd.ntmps9
  go_wp2_with fail
  refine wp_region_held_drew (S := fun w1 => (w1.cell? ⟨w.heap.size, 2, none⟩ = some (.string a.p) ∧ w1.cell? ⟨w.heap.size, 3, none⟩ = some (.string a.q))) (by kernel_rfl) ⟨e2, e3⟩ (fun hHeld => ?_)
  clear e0 e1 e2 e3 e4
  refine held_take 0 75 (v := ?v29) rfl rfl (by kernel_rfl) (by kernel_rfl) (by kernel_rfl) (fun _ _ _ h => h) hHeld (Or.inl ⟨by rfl, ?y29⟩) ?r29
  case y29 => intro w hSw; (try dsimp only at hSw); go_simp; (try with_reducible rfl)
  simp only [List.setIfInBounds_toArray, List.set_cons_zero, List.set_cons_succ]
  refine held_take 1 76 (v := ?v30) rfl rfl (by kernel_rfl) (by kernel_rfl) (by kernel_rfl) (fun _ _ _ h => h) hHeld (Or.inl ⟨by rfl, ?y30⟩) ?r30
  case y30 => intro w hSw; (try dsimp only at hSw); go_simp; (try with_reducible rfl)
  simp only [List.setIfInBounds_toArray, List.set_cons_zero, List.set_cons_succ]
  refine held_take 2 77 (v := ?v31) rfl rfl (by kernel_rfl) (by kernel_rfl) (by kernel_rfl) (fun _ _ _ h => h) hHeld (Or.inl ⟨by rfl, ?y31⟩) ?r31
  case y31 => intro w hSw; (try dsimp only at hSw); go_simp; (try with_reducible rfl)
  simp only [List.setIfInBounds_toArray, List.set_cons_zero, List.set_cons_succ]
  refine held_take 3 78 (v := ?v32) rfl rfl (by kernel_rfl) (by kernel_rfl) (by kernel_rfl) (fun _ _ _ h => h) hHeld (Or.inl ⟨by rfl, ?y32⟩) ?r32
  case y32 => intro w hSw; (try dsimp only at hSw); go_simp; (try with_reducible rfl)
  simp only [List.setIfInBounds_toArray, List.set_cons_zero, List.set_cons_succ]
  refine held_take 4 79 (v := ?v33) rfl rfl (by kernel_rfl) (by kernel_rfl) (by kernel_rfl) (fun _ _ _ h => h) hHeld (Or.inl ⟨by rfl, ?y33⟩) ?r33
  case y33 => intro w hSw; (try dsimp only at hSw); go_simp; (try with_reducible rfl)
  simp only [List.setIfInBounds_toArray, List.set_cons_zero, List.set_cons_succ]
  refine held_take 7 82 (v := ?v34) rfl rfl (by kernel_rfl) (by kernel_rfl) (by kernel_rfl) (fun _ _ _ h => h) hHeld (Or.inl ⟨by rfl, ?y34⟩) ?r34
  case y34 => intro w hSw; (try dsimp only at hSw); go_simp; (try with_reducible rfl)
  simp only [List.setIfInBounds_toArray, List.set_cons_zero, List.set_cons_succ]
  refine held_take 8 83 (v := ?v35) rfl rfl (by kernel_rfl) (by kernel_rfl) (by kernel_rfl) (fun _ _ _ h => h) hHeld (Or.inl ⟨by rfl, ?y35⟩) ?r35
  case y35 => intro w hSw; (try dsimp only at hSw); go_simp; (try with_reducible rfl)
  simp only [List.setIfInBounds_toArray, List.set_cons_zero, List.set_cons_succ]
  refine held_take 9 84 (v := ?v36) rfl rfl (by kernel_rfl) (by kernel_rfl) (by kernel_rfl) (fun _ _ _ h => h) hHeld (Or.inl ⟨by rfl, ?y36⟩) ?r36
  case y36 => intro w hSw; (try dsimp only at hSw); go_simp; (try with_reducible rfl)
  simp only [List.setIfInBounds_toArray, List.set_cons_zero, List.set_cons_succ]
  refine held_take 10 85 (v := ?v37) rfl rfl (by kernel_rfl) (by kernel_rfl) (by kernel_rfl) (fun _ _ _ h => h) hHeld (Or.inl ⟨by rfl, ?y37⟩) ?r37
  case y37 => intro w hSw; (try dsimp only at hSw); go_simp; (try with_reducible rfl)
  simp only [List.setIfInBounds_toArray, List.set_cons_zero, List.set_cons_succ]
  refine held_take 11 86 (v := ?v38) rfl rfl (by kernel_rfl) (by kernel_rfl) (by kernel_rfl) (fun _ _ _ h => h) hHeld (Or.inl ⟨by rfl, ?y38⟩) ?r38
  case y38 => intro w hSw; (try dsimp only at hSw); go_simp; (try with_reducible rfl)
  simp only [List.setIfInBounds_toArray, List.set_cons_zero, List.set_cons_succ]
  refine wpAnyH_ready (rs := [5]) (by kernel_rfl) (by simp) ?_
  refine AllReadyH.cons (o := ⟨some 80, _, _, _, _, _⟩) rfl (fun K hK => ?_) AllReadyH.nil
  rw [if_pos (by rfl)]
  go_simp
  refine (HP.out _ _ D.out).mono ?_
  rintro e w' ⟨rfl, hs, hd⟩
  clear D
  have D := Lib.hid hd
  clear hd
  refine hK.out _ _ hs (fun hHeld => ?_)
  clear hK K
  (try simp only [Act.put, List.setIfInBounds_toArray, List.set_cons_zero, List.set_cons_succ])
  refine wpAnyH_ready (rs := [6]) (by kernel_rfl) (by simp) ?_
  refine AllReadyH.cons (o := ⟨some 81, _, _, _, _, _⟩) rfl (fun K hK => ?_) AllReadyH.nil
  rw [if_pos (by rfl)]
  go_simp
  refine (HNUM.out _ _).mono ?_
  rintro e w' ⟨rfl, rfl⟩
  refine hK.out _ _ hHeld (fun hHeld => ?_)
  clear hK K
  (try simp only [Act.put, List.setIfInBounds_toArray, List.set_cons_zero, List.set_cons_succ])
  refine wpAnyH_ready (rs := [12]) (by kernel_rfl) (by simp) ?_
  refine AllReadyH.cons (o := ⟨some 87, _, _, _, _, _⟩) rfl (fun K hK => ?_) AllReadyH.nil
  rw [if_pos (by rfl)]
  go_simp
  refine (HQ.out _ _ D.out).mono ?_
  rintro e w' ⟨rfl, hs, hd⟩
  clear D
  have D := Lib.hid hd
  clear hd
  refine hK.out _ _ hs (fun hHeld => ?_)
  clear hK K
  (try simp only [Act.put, List.setIfInBounds_toArray, List.set_cons_zero, List.set_cons_succ])
  refine held_take 13 88 (v := ?v39) rfl rfl (by kernel_rfl) (by kernel_rfl) (by kernel_rfl) (fun _ _ _ h => h) hHeld (Or.inl ⟨by rfl, ?y39⟩) ?r39
  case y39 => intro w hSw; (try dsimp only at hSw); go_simp; (try with_reducible rfl)
  simp only [List.setIfInBounds_toArray, List.set_cons_zero, List.set_cons_succ]
  refine held_take 14 6 (v := ?v40) rfl rfl (by kernel_rfl) (by kernel_rfl) (by kernel_rfl) (fun _ _ _ h => h) hHeld (Or.inl ⟨by rfl, ?y40⟩) ?r40
  case y40 => intro w hSw; (try dsimp only at hSw); go_simp; (try with_reducible rfl)
  simp only [List.setIfInBounds_toArray, List.set_cons_zero, List.set_cons_succ]
  refine wpAnyH_done (by kernel_rfl) ?_ _
  have FN := HFIN.out _ D.out
  have HFN := Lib.hid FN
  clear FN D hHeld
  go_wp2
  go_ret
  exact HFN.out
set_option maxHeartbeats 1600000 in
set_option maxRecDepth 4000 in
/-- Crash, by both. -/
theorem do_crash (h : Duo w0 w p q o room l l lo none [] (fun _ => none)) (hf : Fits l) (a : ActM) (A : Option Addr) (c : Nat) (B : Option Addr) (d : Nat) (hw : a.way = 5) (hB : SlCame .i64 w0 B d a.l) :
    Calls Tryd.prog 9 #[.pointer (some ⟨p, 0, none⟩), .pointer (some ⟨q, 0, none⟩), actV a A c B d] w (DoLeft w0 p q o room l lo) := by
  have hx := h.box (actBox a A c B d)
  have bx := box_cells (hx.held (g := w.heap.size) (ob := actBox a A c B d) (if_pos rfl))
  have H1 := Lib.hid (duo_crash hx hf B a.l d hB.1 hB.2.1 hB.2.2.1)
  have H2 : Hid (∀ w1 : World, Duo w0 w1 p q o room (crashM l a.l) l lo none [] (fun g => if g = w.heap.size then some (actBox a A c B d) else none) → w1.cell? ⟨w.heap.size, 5, none⟩ = some (.slice B a.l.length d) ∧ Calls Tryd.prog 25 #[.pointer (some ⟨q, 0, none⟩), .slice B a.l.length d] w1 fun e w' => e = .returned (.tuple #[]) ∧ DoLeft w0 p q o room l lo (.returned (.bool true)) w') := Lib.hid fun w1 hd => by
    refine ⟨(box_cells (hd.held (g := w.heap.size) (ob := actBox a A c B d) (if_pos rfl))).2.2.2.2.2, (duo_rcrash hd hf B a.l d hB.1 hB.2.1 hB.2.2.1).mono ?_⟩
    rintro e w' ⟨rfl, hd2⟩
    exact ⟨rfl, rfl, _, hd2.unbox, (crash_few l a.l).mono (by omega)⟩
  obtain ⟨e0, _, _, _, _, e5⟩ := bx
  rw [hw] at e0
  generalize crashM l a.l = r at *
  unfold actBox at e0 e5 H1 H2
  unfold actV
  rw [hw] at e5 H1 H2 ⊢
  obtain ⟨L, hL⟩ : ∃ L, a.l.length = L := ⟨_, rfl⟩
  simp only [hL] at e0 e5 H1 H2 ⊢
  clear h hx hf hw hB hL
  go_enter Tryd.func9, Tryd.ntmps9
  go_wp2_with fail
  refine H1.out.mono ?_
  rintro e w1 ⟨rfl, hd⟩
  obtain ⟨f5, hc⟩ := H2.out w1 hd
  have HC := Lib.hid hc
  clear hc hd H1 H2 e0 e5
  go_wp2_with fail
  refine HC.out.mono ?_
  rintro e w2 ⟨rfl, hfin⟩
  go_wp2
  go_ret
  exact hfin
set_option maxHeartbeats 800000 in
/-- A way that is none. -/
theorem do_none (h : Duo w0 w p q o room l l lo none [] (fun _ => none)) (a : ActM) (A : Option Addr) (c : Nat) (B : Option Addr) (d : Nat) (h0 : a.way ≠ 0) (h1 : a.way ≠ 1) (h2 : a.way ≠ 2) (h3 : a.way ≠ 3) (h4 : a.way ≠ 4) (h5 : a.way ≠ 5) :
    Calls Tryd.prog 9 #[.pointer (some ⟨p, 0, none⟩), .pointer (some ⟨q, 0, none⟩), actV a A c B d] w (DoLeft w0 p q o room l lo) := by
  have hx := h.box (actBox a A c B d)
  have bx := box_cells (hx.held (g := w.heap.size) (ob := actBox a A c B d) (if_pos rfl))
  obtain ⟨e0, _⟩ := bx
  have FN : Hid (DoLeft w0 p q o room l lo (.returned (.bool true)) (w.alloc (actBox a A c B d))) := Lib.hid ⟨rfl, l, hx.unbox, Few.same _ _⟩
  unfold actBox at e0 FN
  unfold actV
  obtain ⟨k, hk⟩ : ∃ k, a.way = k := ⟨_, rfl⟩
  rw [hk] at h0 h1 h2 h3 h4 h5 e0 FN ⊢
  have b0 : (k == 0) = false := by simpa using h0
  have b1 : (k == 1) = false := by simpa using h1
  have b2 : (k == 2) = false := by simpa using h2
  have b3 : (k == 3) = false := by simpa using h3
  have b4 : (k == 4) = false := by simpa using h4
  have b5 : (k == 5) = false := by simpa using h5
  clear h hx h0 h1 h2 h3 h4 h5 hk
  go_enter Tryd.func9, Tryd.ntmps9
  go_wp2
  go_ret
  exact FN.out
end
end Go.Proofs.YtefjbefmmmllbaaDoor
