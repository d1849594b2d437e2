/- What the statement's own Do makes of the stores: Delete and Put. -/
import Derived.Test.YtfbdmagonjjjoaaDoorSDo2
namespace Go.Proofs.YtfbdmagonjjjoaaDoor
open Go.RowKit Go.Maps

/-- append by its run. -/
theorem wp_append_run {P : Program} {w : World} {o : Oper} {a : Go.Act} {Q : Exit → Go.Act → World → Prop} {K : Go.Act → World → Prop} (s x : Operand) (t : TypeId) (ho : o.op = .call { callee := .builtin .append, args := #[s, x], argTypes := #[t, t] })
    (v u : Value) (hs : a.eval s = v) (hx : a.eval x = u) (v' : Value) (w' : World) (hrun : (Builtin.append_ #[t, t] o.type #[v, u]).run P w = .ok v' w')
    (h : K (a.put o.dst v') w') : o.wp P a w K Q := by
  unfold Oper.wp execOp
  simp only [ho, resolve, invoke, builtin, Sem.run_bind, Sem.run_pure, Result.andThen_ok, List.map_toArray, List.map_cons, List.map_nil, hs, hx, hrun]
  exact h

section
variable {w0 w : World} {p q o : Nat} {room : Int} {l lo : List FileM} {bad : List Int}
set_option maxHeartbeats 3200000 in
set_option maxRecDepth 4000 in
/-- Delete, by both. -/
theorem do_delete (h : Duo w0 w p q o room l bad l bad lo none [] (fun _ => none)) (hf : Fits l bad) (a : ActM) (A : Option Addr) (c : Nat) (B : Option Addr) (d : Nat) (hw : a.way = 2) (hn : a.p.size ≤ maxLen) :
    Calls Tryd.prog 11 #[.pointer (some ⟨p, 0, none⟩), .pointer (some ⟨q, 0, none⟩), actV a A c B d] w (DoLeft w0 p q o room l bad lo) := by
  have hx := h.box (actBox a A c B d)
  have bx := box_cells (hx.held (g := w.heap.size) (ob := actBox a A c B d) (if_pos rfl))
  have HP : Hid (∀ (w1 : World) (l2 : List FileM) (bad2 : List Int), Duo w0 w1 p q o room l bad l2 bad2 lo none [] (fun g => if g = w.heap.size then some (actBox a A c B d) else none) → Calls Tryd.prog 14 #[.pointer (some ⟨p, 0, none⟩), .string a.p] w1 fun e w' => e = .returned (.int .i64 (faulty (bad.headD 0) l (removeM l a.p)).2) ∧ w'.cell? ⟨w.heap.size, 1, none⟩ = some (.string a.p) ∧ Duo w0 w' p q o room (faulty (bad.headD 0) l (removeM l a.p)).1 bad.tail l2 bad2 lo none [] (fun g => if g = w.heap.size then some (actBox a A c B d) else none)) := Lib.hid fun w1 l2 bad2 hd => by
    refine (duo_delete hd hf a.p hn).mono ?_
    rintro e w' ⟨rfl, hd2⟩
    exact ⟨rfl, (box_cells (hd2.held (g := w.heap.size) (ob := actBox a A c B d) (if_pos rfl))).2.1, hd2⟩
  have HQ : Hid (∀ (w1 : World) (l1 : List FileM) (bad1 : List Int), Duo w0 w1 p q o room l1 bad1 l bad lo none [] (fun g => if g = w.heap.size then some (actBox a A c B d) else none) → Calls Tryd.prog 21 #[.pointer (some ⟨q, 0, none⟩), .string a.p] w1 fun e w' => e = .returned (.int .i64 (faulty (bad.headD 0) l (removeM l a.p)).2) ∧ w'.cell? ⟨w.heap.size, 1, none⟩ = some (.string a.p) ∧ Duo w0 w' p q o room l1 bad1 (faulty (bad.headD 0) l (removeM l a.p)).1 bad.tail lo none [] (fun g => if g = w.heap.size then some (actBox a A c B d) else none)) := Lib.hid fun w1 l1 bad1 hd => by
    refine (duo_rdelete hd hf a.p hn).mono ?_
    rintro e w' ⟨rfl, hd2⟩
    exact ⟨rfl, (box_cells (hd2.held (g := w.heap.size) (ob := actBox a A c B d) (if_pos rfl))).2.1, hd2⟩
  have hg := gone_fits (k := bad.headD 0) l a.p
  have HFIN : Hid (∀ w1 : World, Duo w0 w1 p q o room (faulty (bad.headD 0) l (removeM l a.p)).1 bad.tail (faulty (bad.headD 0) l (removeM l a.p)).1 bad.tail lo none [] (fun g => if g = w.heap.size then some (actBox a A c B d) else none) → DoLeft w0 p q o room l bad lo (.returned (.bool true)) w1) := Lib.hid fun w1 hd => ⟨rfl, _, bad.tail, hd.unbox, by omega, by omega, tail_le bad⟩
  have D := Lib.hid (hx.below (w' := (w.alloc (actBox a A c B d)).drew) ⟨rfl, rfl, rfl, Nat.le_refl _, fun _ _ => rfl⟩)
  obtain ⟨e0, e1, _, _⟩ := bx
  rw [hw] at e0
  generalize faulty (bad.headD 0) l (removeM l a.p) = r at *
  obtain ⟨l', er⟩ := r
  dsimp only at HP HQ HFIN
  unfold actBox at e0 e1 HP HQ HFIN D
  unfold actV
  rw [hw] at e1 HP HQ HFIN D ⊢
  have HNUM := Lib.hid num_any
  have q1 : (er == er) = true := by simp
  clear h hx hf hn hw hg
  go_enter Tryd.func11, Tryd.ntmps11
  go_wp2_with fail
  refine wp_region_held_drew (S := fun w1 => w1.cell? ⟨w.heap.size, 1, none⟩ = some (.string a.p)) (by kernel_rfl) e1 (fun hHeld => ?_)
  clear e0 e1
  refine held_take 0 63 (v := ?v1) rfl rfl (by kernel_rfl) (by kernel_rfl) (by kernel_rfl) (fun _ _ _ h => h) hHeld (Or.inl ⟨by rfl, ?y1⟩) ?r1
  case y1 => intro w hSw; (try dsimp only at hSw); go_simp; (try with_reducible rfl)
  simp only [List.setIfInBounds_toArray, List.set_cons_zero, List.set_cons_succ]
  refine held_take 1 64 (v := ?v2) rfl rfl (by kernel_rfl) (by kernel_rfl) (by kernel_rfl) (fun _ _ _ h => h) hHeld (Or.inl ⟨by rfl, ?y2⟩) ?r2
  case y2 => intro w hSw; (try dsimp only at hSw); go_simp; (try with_reducible rfl)
  simp only [List.setIfInBounds_toArray, List.set_cons_zero, List.set_cons_succ]
  refine held_take 2 65 (v := ?v3) rfl rfl (by kernel_rfl) (by kernel_rfl) (by kernel_rfl) (fun _ _ _ h => h) hHeld (Or.inl ⟨by rfl, ?y3⟩) ?r3
  case y3 => intro w hSw; (try dsimp only at hSw); go_simp; (try with_reducible rfl)
  simp only [List.setIfInBounds_toArray, List.set_cons_zero, List.set_cons_succ]
  refine held_take 5 68 (v := ?v4) rfl rfl (by kernel_rfl) (by kernel_rfl) (by kernel_rfl) (fun _ _ _ h => h) hHeld (Or.inl ⟨by rfl, ?y4⟩) ?r4
  case y4 => intro w hSw; (try dsimp only at hSw); go_simp; (try with_reducible rfl)
  simp only [List.setIfInBounds_toArray, List.set_cons_zero, List.set_cons_succ]
  refine held_take 6 69 (v := ?v5) rfl rfl (by kernel_rfl) (by kernel_rfl) (by kernel_rfl) (fun _ _ _ h => h) hHeld (Or.inl ⟨by rfl, ?y5⟩) ?r5
  case y5 => intro w hSw; (try dsimp only at hSw); go_simp; (try with_reducible rfl)
  simp only [List.setIfInBounds_toArray, List.set_cons_zero, List.set_cons_succ]
  refine held_take 7 70 (v := ?v6) rfl rfl (by kernel_rfl) (by kernel_rfl) (by kernel_rfl) (fun _ _ _ h => h) hHeld (Or.inl ⟨by rfl, ?y6⟩) ?r6
  case y6 => intro w hSw; (try dsimp only at hSw); go_simp; (try with_reducible rfl)
  simp only [List.setIfInBounds_toArray, List.set_cons_zero, List.set_cons_succ]
  refine wpAnyH_ready (rs := [3]) (by kernel_rfl) (by simp) ?_
  refine AllReadyH.cons (o := ⟨some 66, _, _, _, _, _⟩) rfl (fun K hK => ?_) (AllReadyH.nil)
  rw [if_pos (by rfl)]
  go_simp
  refine (HP.out _ _ _ D.out).mono ?_
  rintro e w' ⟨rfl, hs, hd⟩
  clear D
  have D := Lib.hid hd
  clear hd
  refine hK.out _ _ hs (fun hHeld => ?_)
  clear hK K
  (try simp only [Act.put, List.setIfInBounds_toArray, List.set_cons_zero, List.set_cons_succ])
  refine wpAnyH_ready (rs := [4]) (by kernel_rfl) (by simp) ?_
  refine AllReadyH.cons (o := ⟨some 67, _, _, _, _, _⟩) rfl (fun K hK => ?_) (AllReadyH.nil)
  rw [if_pos (by rfl)]
  go_simp
  refine (HNUM.out _ _).mono ?_
  rintro e w' ⟨rfl, rfl⟩
  refine hK.out _ _ hHeld (fun hHeld => ?_)
  clear hK K
  (try simp only [Act.put, List.setIfInBounds_toArray, List.set_cons_zero, List.set_cons_succ])
  refine wpAnyH_ready (rs := [8]) (by kernel_rfl) (by simp) ?_
  refine AllReadyH.cons (o := ⟨some 71, _, _, _, _, _⟩) rfl (fun K hK => ?_) (AllReadyH.nil)
  rw [if_pos (by rfl)]
  go_simp
  refine (HQ.out _ _ _ D.out).mono ?_
  rintro e w' ⟨rfl, hs, hd⟩
  clear D
  have D := Lib.hid hd
  clear hd
  refine hK.out _ _ hs (fun hHeld => ?_)
  clear hK K
  (try simp only [Act.put, List.setIfInBounds_toArray, List.set_cons_zero, List.set_cons_succ])
  refine held_take 9 72 (v := ?v7) rfl rfl (by kernel_rfl) (by kernel_rfl) (by kernel_rfl) (fun _ _ _ h => h) hHeld (Or.inl ⟨by rfl, ?y7⟩) ?r7
  case y7 => intro w hSw; (try dsimp only at hSw); go_simp; (try with_reducible rfl)
  simp only [List.setIfInBounds_toArray, List.set_cons_zero, List.set_cons_succ]
  refine held_take 10 6 (v := ?v8) rfl rfl (by kernel_rfl) (by kernel_rfl) (by kernel_rfl) (fun _ _ _ h => h) hHeld (Or.inl ⟨by rfl, ?y8⟩) ?r8
  case y8 => intro w hSw; (try dsimp only at hSw); go_simp; (try with_reducible rfl)
  simp only [List.setIfInBounds_toArray, List.set_cons_zero, List.set_cons_succ]
  refine wpAnyH_done (by kernel_rfl) ?_ _
  have FN := HFIN.out _ D.out
  have HFN := Lib.hid FN
  clear FN D hHeld
  go_wp2
  go_ret
  exact HFN.out
set_option maxHeartbeats 6400000 in
set_option maxRecDepth 4000 in
/-- Put, by both. -/
theorem do_put (h : Duo w0 w p q o room l bad l bad lo none [] (fun _ => none)) (hf : Fits l bad) (a : ActM) (A : Option Addr) (c : Nat) (B : Option Addr) (d : Nat) (hw : a.way = 0) (hA : SlCame .u8 w0 A c a.b) (hwf : a.wf) (hn : a.p.size ≤ 100) (hs : a.b.length ≤ 500) :
    Calls Tryd.prog 11 #[.pointer (some ⟨p, 0, none⟩), .pointer (some ⟨q, 0, none⟩), actV a A c B d] w (DoLeft w0 p q o room l bad lo) := by
  have hx := h.box (actBox a A c B d)
  have bx := box_cells (hx.held (g := w.heap.size) (ob := actBox a A c B d) (if_pos rfl))
  have HA : Hid (∀ (w1 : World) (l2 : List FileM) (bad2 : List Int), Duo w0 w1 p q o room l bad l2 bad2 lo none [] (fun g => if g = w.heap.size then some (actBox a A c B d) else none) → ∀ ty, ∃ C cc w2, (Builtin.append_ #[32, 32] ty #[.slice none 0 0, .slice A a.b.length c]).run Tryd.prog w1 = .ok (.slice C a.b.length cc) w2 ∧ (C = none → cc = 0) ∧ a.b.length ≤ cc ∧ (w2.cell? ⟨w.heap.size, 1, none⟩ = some (.string a.p) ∧ w2.cell? ⟨w.heap.size, 2, none⟩ = some (.slice A a.b.length c)) ∧ Duo w0 w2 p q o room l bad l2 bad2 lo C a.b (fun g => if g = w.heap.size then some (actBox a A c B d) else none)) := Lib.hid fun w1 l2 bad2 hd ty => by
    have h2 : Lies .u8 w1 w1.heap.size A a.b := (hA.1.below hd.since).more hd.since.size
    obtain ⟨C, cc, w2, hrun, ho, hb⟩ := new_bytes h2 hA.2.2.2 hA.2.1 (by omega) ty
    obtain ⟨A2, c2, e, h3, _⟩ := ho.parts
    injection e with e1 _ e3
    subst e1 e3
    have hd2 := hd.fresh hb ho
    exact ⟨C, cc, w2, hrun, own_none ho, h3, (box_cells (hd2.held (g := w.heap.size) (ob := actBox a A c B d) (if_pos rfl))).2.imp_right And.left, hd2⟩
  have HP : Hid (∀ (w1 : World) (l2 : List FileM) (bad2 : List Int) (C : Option Addr) (cc : Nat), (C = none → cc = 0) → a.b.length ≤ cc → Duo w0 w1 p q o room l bad l2 bad2 lo C a.b (fun g => if g = w.heap.size then some (actBox a A c B d) else none) → Calls Tryd.prog 10 #[.pointer (some ⟨p, 0, none⟩), .string a.p, .slice C a.b.length cc] w1 fun e w' => e = .returned (.int .i64 (faulty (bad.headD 0) l (putM room l a.p a.b)).2) ∧ (w'.cell? ⟨w.heap.size, 1, none⟩ = some (.string a.p) ∧ w'.cell? ⟨w.heap.size, 2, none⟩ = some (.slice A a.b.length c)) ∧ Duo w0 w' p q o room (faulty (bad.headD 0) l (putM room l a.p a.b)).1 bad.tail l2 bad2 lo C a.b (fun g => if g = w.heap.size then some (actBox a A c B d) else none)) := Lib.hid fun w1 l2 bad2 C cc hcn hcl hd => by
    refine (duo_put hd hf a.p cc (by omega) hwf.2 hcn hcl hs).mono ?_
    rintro e w' ⟨rfl, hd2⟩
    exact ⟨rfl, (box_cells (hd2.held (g := w.heap.size) (ob := actBox a A c B d) (if_pos rfl))).2.imp_right And.left, hd2⟩
  have HQ : Hid (∀ (w1 : World) (l1 : List FileM) (bad1 : List Int) (C : Option Addr) (xs : List Int), Duo w0 w1 p q o room l1 bad1 l bad lo C xs (fun g => if g = w.heap.size then some (actBox a A c B d) else none) → Calls Tryd.prog 19 #[.pointer (some ⟨q, 0, none⟩), .string a.p, .slice A a.b.length c] w1 fun e w' => e = .returned (.int .i64 (faulty (bad.headD 0) l (putM room l a.p a.b)).2) ∧ (w'.cell? ⟨w.heap.size, 1, none⟩ = some (.string a.p) ∧ w'.cell? ⟨w.heap.size, 2, none⟩ = some (.slice A a.b.length c)) ∧ Duo w0 w' p q o room l1 bad1 (faulty (bad.headD 0) l (putM room l a.p a.b)).1 bad.tail lo C xs (fun g => if g = w.heap.size then some (actBox a A c B d) else none)) := Lib.hid fun w1 l1 bad1 C xs hd => by
    refine (duo_rput hd hf a.p A a.b c hwf.1 hwf.2 hA.1 hA.2.2.2 hA.2.1 hs).mono ?_
    rintro e w' ⟨rfl, hd2⟩
    exact ⟨rfl, (box_cells (hd2.held (g := w.heap.size) (ob := actBox a A c B d) (if_pos rfl))).2.imp_right And.left, hd2⟩
  have hg := put_fits (room := room) (k := bad.headD 0) h.rising a.p a.b
  have HFIN : Hid (∀ (w1 : World) (C : Option Addr) (xs : List Int), Duo w0 w1 p q o room (faulty (bad.headD 0) l (putM room l a.p a.b)).1 bad.tail (faulty (bad.headD 0) l (putM room l a.p a.b)).1 bad.tail lo C xs (fun g => if g = w.heap.size then some (actBox a A c B d) else none) → DoLeft w0 p q o room l bad lo (.returned (.bool true)) w1) := Lib.hid fun w1 C xs hd => ⟨rfl, _, bad.tail, hd.unbox, hg.1, Nat.le_trans hg.2 (Nat.add_le_add_left hs _), tail_le bad⟩
  have D := Lib.hid (hx.below (w' := (w.alloc (actBox a A c B d)).drew) ⟨rfl, rfl, rfl, Nat.le_refl _, fun _ _ => rfl⟩)
  obtain ⟨e0, e1, e2, _⟩ := bx
  rw [hw] at e0
  generalize faulty (bad.headD 0) l (putM room l a.p a.b) = r at *
  obtain ⟨l', er⟩ := r
  dsimp only at HP HQ HFIN
  obtain ⟨L, hL⟩ : ∃ L, a.b.length = L := ⟨_, rfl⟩
  unfold actBox at e0 e1 e2 HP HQ HFIN D HA
  unfold actV
  rw [hw, hL] at e1 e2 HP HQ HFIN D HA
  rw [hw, hL]
  have HNUM := Lib.hid num_any
  have q1 : (er == er) = true := by simp
  clear h hx hf hn hw hg hA hwf hs hL
  go_enter Tryd.func11, Tryd.ntmps11
  go_wp2_with fail
  refine wp_region_held_drew (S := fun w1 => (w1.cell? ⟨w.heap.size, 1, none⟩ = some (.string a.p) ∧ w1.cell? ⟨w.heap.size, 2, none⟩ = some (.slice A L c))) (by kernel_rfl) ⟨e1, e2⟩ (fun hHeld => ?_)
  clear e0 e1 e2
  refine held_take 0 19 (v := ?v9) rfl rfl (by kernel_rfl) (by kernel_rfl) (by kernel_rfl) (fun _ _ _ h => h) hHeld (Or.inl ⟨by rfl, ?y9⟩) ?r9
  case y9 => intro w hSw; (try dsimp only at hSw); go_simp; (try with_reducible rfl)
  simp only [List.setIfInBounds_toArray, List.set_cons_zero, List.set_cons_succ]
  refine held_take 1 20 (v := ?v10) rfl rfl (by kernel_rfl) (by kernel_rfl) (by kernel_rfl) (fun _ _ _ h => h) hHeld (Or.inl ⟨by rfl, ?y10⟩) ?r10
  case y10 => intro w hSw; (try dsimp only at hSw); go_simp; (try with_reducible rfl)
  simp only [List.setIfInBounds_toArray, List.set_cons_zero, List.set_cons_succ]
  refine held_take 2 21 (v := ?v11) rfl rfl (by kernel_rfl) (by kernel_rfl) (by kernel_rfl) (fun _ _ _ h => h) hHeld (Or.inl ⟨by rfl, ?y11⟩) ?r11
  case y11 => intro w hSw; (try dsimp only at hSw); go_simp; (try with_reducible rfl)
  simp only [List.setIfInBounds_toArray, List.set_cons_zero, List.set_cons_succ]
  refine held_take 3 22 (v := ?v12) rfl rfl (by kernel_rfl) (by kernel_rfl) (by kernel_rfl) (fun _ _ _ h => h) hHeld (Or.inl ⟨by rfl, ?y12⟩) ?r12
  case y12 => intro w hSw; (try dsimp only at hSw); go_simp; (try with_reducible rfl)
  simp only [List.setIfInBounds_toArray, List.set_cons_zero, List.set_cons_succ]
  refine held_take 4 23 (v := ?v13) rfl rfl (by kernel_rfl) (by kernel_rfl) (by kernel_rfl) (fun _ _ _ h => h) hHeld (Or.inl ⟨by rfl, ?y13⟩) ?r13
  case y13 => intro w hSw; (try dsimp only at hSw); go_simp; (try with_reducible rfl)
  simp only [List.setIfInBounds_toArray, List.set_cons_zero, List.set_cons_succ]
  refine held_take 8 27 (v := ?v14) rfl rfl (by kernel_rfl) (by kernel_rfl) (by kernel_rfl) (fun _ _ _ h => h) hHeld (Or.inl ⟨by rfl, ?y14⟩) ?r14
  case y14 => intro w hSw; (try dsimp only at hSw); go_simp; (try with_reducible rfl)
  simp only [List.setIfInBounds_toArray, List.set_cons_zero, List.set_cons_succ]
  refine held_take 9 28 (v := ?v15) rfl rfl (by kernel_rfl) (by kernel_rfl) (by kernel_rfl) (fun _ _ _ h => h) hHeld (Or.inl ⟨by rfl, ?y15⟩) ?r15
  case y15 => intro w hSw; (try dsimp only at hSw); go_simp; (try with_reducible rfl)
  simp only [List.setIfInBounds_toArray, List.set_cons_zero, List.set_cons_succ]
  refine held_take 10 29 (v := ?v16) rfl rfl (by kernel_rfl) (by kernel_rfl) (by kernel_rfl) (fun _ _ _ h => h) hHeld (Or.inl ⟨by rfl, ?y16⟩) ?r16
  case y16 => intro w hSw; (try dsimp only at hSw); go_simp; (try with_reducible rfl)
  simp only [List.setIfInBounds_toArray, List.set_cons_zero, List.set_cons_succ]
  refine held_take 11 30 (v := ?v17) rfl rfl (by kernel_rfl) (by kernel_rfl) (by kernel_rfl) (fun _ _ _ h => h) hHeld (Or.inl ⟨by rfl, ?y17⟩) ?r17
  case y17 => intro w hSw; (try dsimp only at hSw); go_simp; (try with_reducible rfl)
  simp only [List.setIfInBounds_toArray, List.set_cons_zero, List.set_cons_succ]
  refine held_take 12 31 (v := ?v18) rfl rfl (by kernel_rfl) (by kernel_rfl) (by kernel_rfl) (fun _ _ _ h => h) hHeld (Or.inl ⟨by rfl, ?y18⟩) ?r18
  case y18 => intro w hSw; (try dsimp only at hSw); go_simp; (try with_reducible rfl)
  simp only [List.setIfInBounds_toArray, List.set_cons_zero, List.set_cons_succ]
  refine wpAnyH_ready (rs := [5]) (by kernel_rfl) (by simp) ?_
  refine AllReadyH.cons (o := ⟨some 24, _, _, _, _, _⟩) rfl (fun K hK => ?_) (AllReadyH.nil)
  rw [if_pos (by rfl)]
  obtain ⟨C, cc, w', hrun, hcn, hcl, hs, hd⟩ := HA.out _ _ _ D.out 32
  refine wp_append_run (.const (.slice none 0 0)) (.tmp 23) 32 rfl _ _ rfl rfl _ w' hrun ?_
  clear D hrun
  have D := Lib.hid hd
  clear hd
  refine hK.out _ _ hs (fun hHeld => ?_)
  clear hK K
  (try simp only [Act.put, List.setIfInBounds_toArray, List.set_cons_zero, List.set_cons_succ])
  refine wpAnyH_ready (rs := [6]) (by kernel_rfl) (by simp) ?_
  refine AllReadyH.cons (o := ⟨some 25, _, _, _, _, _⟩) rfl (fun K hK => ?_) (AllReadyH.nil)
  rw [if_pos (by rfl)]
  go_simp
  refine (HP.out _ _ _ _ _ hcn hcl D.out).mono ?_
  rintro e w' ⟨rfl, hs, hd⟩
  clear D
  have D := Lib.hid hd
  clear hd
  refine hK.out _ _ hs (fun hHeld => ?_)
  clear hK K
  (try simp only [Act.put, List.setIfInBounds_toArray, List.set_cons_zero, List.set_cons_succ])
  refine wpAnyH_ready (rs := [7]) (by kernel_rfl) (by simp) ?_
  refine AllReadyH.cons (o := ⟨some 26, _, _, _, _, _⟩) rfl (fun K hK => ?_) (AllReadyH.nil)
  rw [if_pos (by rfl)]
  go_simp
  refine (HNUM.out _ _).mono ?_
  rintro e w' ⟨rfl, rfl⟩
  refine hK.out _ _ hHeld (fun hHeld => ?_)
  clear hK K
  (try simp only [Act.put, List.setIfInBounds_toArray, List.set_cons_zero, List.set_cons_succ])
  refine wpAnyH_ready (rs := [13]) (by kernel_rfl) (by simp) ?_
  refine AllReadyH.cons (o := ⟨some 32, _, _, _, _, _⟩) rfl (fun K hK => ?_) (AllReadyH.nil)
  rw [if_pos (by rfl)]
  go_simp
  refine (HQ.out _ _ _ _ _ D.out).mono ?_
  rintro e w' ⟨rfl, hs, hd⟩
  clear D
  have D := Lib.hid hd
  clear hd
  refine hK.out _ _ hs (fun hHeld => ?_)
  clear hK K
  (try simp only [Act.put, List.setIfInBounds_toArray, List.set_cons_zero, List.set_cons_succ])
  refine held_take 14 33 (v := ?v19) rfl rfl (by kernel_rfl) (by kernel_rfl) (by kernel_rfl) (fun _ _ _ h => h) hHeld (Or.inl ⟨by rfl, ?y19⟩) ?r19
  case y19 => intro w hSw; (try dsimp only at hSw); go_simp; (try with_reducible rfl)
  simp only [List.setIfInBounds_toArray, List.set_cons_zero, List.set_cons_succ]
  refine held_take 15 6 (v := ?v20) rfl rfl (by kernel_rfl) (by kernel_rfl) (by kernel_rfl) (fun _ _ _ h => h) hHeld (Or.inl ⟨by rfl, ?y20⟩) ?r20
  case y20 => intro w hSw; (try dsimp only at hSw); go_simp; (try with_reducible rfl)
  simp only [List.setIfInBounds_toArray, List.set_cons_zero, List.set_cons_succ]
  refine wpAnyH_done (by kernel_rfl) ?_ _
  have FN := HFIN.out _ _ _ D.out
  have HFN := Lib.hid FN
  clear FN D hHeld
  go_wp2
  go_ret
  exact HFN.out
end
end Go.Proofs.YtfbdmagonjjjoaaDoor
