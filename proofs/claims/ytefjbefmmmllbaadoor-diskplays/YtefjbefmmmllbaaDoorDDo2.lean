/- What the statement's own do makes of the disks: Append, and the bytes that were handed in, turned behind it. -/
import Derived.Test.YtefjbefmmmllbaaDoorDDo
namespace Go.Proofs.YtefjbefmmmllbaaDoor
open Go.RowKit Go.Maps

theorem own_none {k : IntKind} {e : TypeId} {w : World} {b n c : Nat} {A : Option Addr} {xs : List Int} (h : Own k e w b (.slice A n c) xs) : A = none → c = 0 := fun h0 => by
  subst h0
  rcases h.2 with ⟨e, _⟩ | ⟨g, cap, cur, e, _⟩
  · injection e
  · cases e
abbrev Turn (w0 w : World) (p q o : Nat) (room : Int) (l l2 lo : List FileM) (X : Nat → Option Obj) : Prop := Duo w0 w p q o room l l2 lo none [] X
/-- The disks, and beside them the block of bytes that is written. -/
def Turns (w0 w : World) (p q o : Nat) (room : Int) (l l2 lo : List FileM) (X : Nat → Option Obj) (bx g L : Nat) : Prop :=
  ¬ bx = g ∧ w0.heap.size ≤ g ∧ ∃ cur : Array Value, (∀ j, j < L → ∃ y, cur[j]? = some (.int .u8 y)) ∧ Duo w0 w p q o room l l2 lo none [] (fun i => if i = g then some (.cells cur 5 (0, 0)) else X i)
section
variable {w0 w : World} {p q o : Nat} {room : Int} {l l2 lo : List FileM} {bx g L : Nat} {ob : Obj}
theorem Turns.duo (h : Turns w0 w p q o room l l2 lo (fun i => if i = bx then some ob else none) bx g L) : Duo w0 w p q o room l l2 lo none [] (fun i => if i = bx then some ob else none) := by
  obtain ⟨hne, _, cur, _, hd⟩ := h
  refine hd.fewer fun i ob' hi => ?_
  split at hi
  · rename_i e
    show (if i = g then _ else if i = bx then _ else _) = _
    rw [if_neg (by rw [e]; exact hne), if_pos e]
    exact hi
  · cases hi
theorem Turns.at_ {X : Nat → Option Obj} (h : Turns w0 w p q o room l l2 lo X bx g L) {i : Nat} (hi : i < L) : ∃ y, w.cell? ⟨g, i, none⟩ = some (.int .u8 y) ∧ w.frozen? ⟨g, i, none⟩ = false ∧ ∀ z, Turns w0 (w.setCell ⟨g, i, none⟩ (.int .u8 z)) p q o room l l2 lo X bx g L := by
  obtain ⟨hne, hlow, cur, hcur, hd⟩ := h
  obtain ⟨y, hy⟩ := hcur i hi
  have hb := hd.held (g := g) (ob := .cells cur 5 (0, 0)) (if_pos rfl)
  refine ⟨y, ?_, ?_, fun z => ⟨hne, hlow, cur.setIfInBounds i (.int .u8 z), fun j hj => ?_, (hd.store (if_pos rfl) i (.int .u8 z) hlow).fewer fun j ob' hj => ?_⟩⟩
  · unfold World.cell?
    rw [hb]
    exact hy
  · simp [World.frozen?, hb]
  · by_cases e : i = j
    · subst e
      refine ⟨z, ?_⟩
      obtain ⟨hlt, _⟩ := Array.getElem?_eq_some_iff.1 hy
      simp [hlt]
    · obtain ⟨y', hy'⟩ := hcur j hj
      refine ⟨y', ?_⟩
      rw [Array.getElem?_setIfInBounds_ne e]
      exact hy'
  · split at hj
    · rename_i e
      rw [if_pos e]
      exact hj
    · rename_i e
      rw [if_neg e, if_neg e]
      exact hj
end
section
variable {w0 w : World} {p q o : Nat} {room : Int} {l lo : List FileM}
set_option maxHeartbeats 3200000 in
set_option maxRecDepth 4000 in
/-- Append of no bytes, by both. -/
theorem do_append_nil (h : Duo w0 w p q o room l l lo none [] (fun _ => none)) (hf : Fits l) (a : ActM) (A : Option Addr) (c : Nat) (B : Option Addr) (d : Nat) (hw : a.way = 0) (hA : SlCame .u8 w0 A c a.b) (hwf : a.wf) (hn : a.p.size ≤ 100) (hs : a.b.length ≤ 500) (hb0 : a.b.length = 0) :
    Calls Tryd.prog 9 #[.pointer (some ⟨p, 0, none⟩), .pointer (some ⟨q, 0, none⟩), actV a A c B d] w (DoLeft w0 p q o room l lo) := by
  have hx := h.box (actBox a A c B d)
  have bx := box_cells (hx.held (g := w.heap.size) (ob := actBox a A c B d) (if_pos rfl))
  have HA := Lib.hid (fun ty => new_bytes (W := w.alloc (actBox a A c B d)) ((hA.1.below hx.since).more hx.since.size) hA.2.2.2 hA.2.1 (by omega) ty)
  have HP : Hid (∀ (w1 : World) (C : Option Addr) (cc : Nat), Below (w.alloc (actBox a A c B d)).heap.size (w.alloc (actBox a A c B d)) w1 → Own .u8 5 w1 (w.alloc (actBox a A c B d)).heap.size (.slice C a.b.length cc) a.b → w1.cell? ⟨w.heap.size, 2, none⟩ = some (.string a.p) ∧ Calls Tryd.prog 8 #[.pointer (some ⟨p, 0, none⟩), .string a.p, .slice C a.b.length cc] w1 fun e w' => e = .returned (.int .i64 (appendM room l a.p a.b).2) ∧ Turn w0 w' p q o room (appendM room l a.p a.b).1 l lo (fun g => if g = w.heap.size then some (actBox a A c B d) else none)) := Lib.hid fun w1 C cc hb ho => by
    obtain ⟨A2, c2, e, h3, _⟩ := ho.parts
    injection e with e1 _ e3
    subst e1 e3
    have hd := hx.fresh hb ho
    refine ⟨(box_cells (hd.held (g := w.heap.size) (ob := actBox a A c B d) (if_pos rfl))).2.2.1, (duo_append hd hf a.p cc (by omega) hwf.2.2 (own_none ho) h3 hs).mono ?_⟩
    rintro e w' ⟨rfl, hd2⟩
    exact ⟨rfl, hd2.bare⟩
  have HQ : Hid (∀ (w1 : World) (l1 : List FileM), Duo w0 w1 p q o room l1 l lo none [] (fun g => if g = w.heap.size then some (actBox a A c B d) else none) → Calls Tryd.prog 16 #[.pointer (some ⟨q, 0, none⟩), .string a.p, .slice A a.b.length c] w1 fun e w' => e = .returned (.int .i64 (appendM room l a.p a.b).2) ∧ (w'.cell? ⟨w.heap.size, 2, none⟩ = some (.string a.p) ∧ w'.cell? ⟨w.heap.size, 4, none⟩ = some (.slice A a.b.length c)) ∧ Duo w0 w' p q o room l1 (appendM room l a.p a.b).1 lo none [] (fun g => if g = w.heap.size then some (actBox a A c B d) else none)) := Lib.hid fun w1 l1 hd => by
    refine (duo_rappend hd hf a.p A a.b c hwf.1 hwf.2.2 hA.1 hA.2.2.2 hA.2.1 hs).mono ?_
    rintro e w' ⟨rfl, hd2⟩
    exact ⟨rfl, ⟨(box_cells (hd2.held (g := w.heap.size) (ob := actBox a A c B d) (if_pos rfl))).2.2.1, (box_cells (hd2.held (g := w.heap.size) (ob := actBox a A c B d) (if_pos rfl))).2.2.2.2.1⟩, hd2⟩
  have hg := append_few room l a.p a.b
  have HFIN : Hid (∀ w1 : World, Duo w0 w1 p q o room (appendM room l a.p a.b).1 (appendM room l a.p a.b).1 lo none [] (fun g => if g = w.heap.size then some (actBox a A c B d) else none) → DoLeft w0 p q o room l lo (.returned (.bool true)) w1) := Lib.hid fun w1 hd => ⟨rfl, _, hd.unbox, hg.mono hs⟩
  have HCL : Hid (∀ (w1 : World) (l1 l2 : List FileM), Duo w0 w1 p q o room l1 l2 lo none [] (fun g => if g = w.heap.size then some (actBox a A c B d) else none) → (w1.cell? ⟨w.heap.size, 2, none⟩ = some (.string a.p) ∧ w1.cell? ⟨w.heap.size, 4, none⟩ = some (.slice A a.b.length c))) := Lib.hid fun w1 l1 l2 hd2 => ⟨(box_cells (hd2.held (g := w.heap.size) (ob := actBox a A c B d) (if_pos rfl))).2.2.1, (box_cells (hd2.held (g := w.heap.size) (ob := actBox a A c B d) (if_pos rfl))).2.2.2.2.1⟩
  obtain ⟨e0, e1, e2, e3, e4, _⟩ := bx
  rw [hw] at e0
  generalize appendM room l a.p a.b = r at *
  obtain ⟨l', er⟩ := r
  dsimp only at HP HQ HFIN
  unfold actBox at e0 e1 e2 e3 e4 HP HQ HFIN HA HCL
  unfold actV
  rw [hw] at e1 e2 e3 e4 HP HQ HFIN HA HCL ⊢
  simp only [hb0] at e4 HP HQ HFIN HA HCL ⊢
  have HNUM := Lib.hid num_any
  have q1 : (er == er) = true := by simp
  clear h hx hf hn hw hg hA hwf hs hb0
  go_enter Tryd.func9, Tryd.ntmps9
  go_wp2_with (at_builtin; obtain ⟨C, cc, w1, hrun, ho, hb⟩ := HA.out 31; refine wpList_append_run rfl (.const (.slice none 0 0)) (.tmp 15) 31 rfl _ _ rfl rfl _ w1 hrun ?_; obtain ⟨f2, HF⟩ := HP.out w1 C cc hb ho; have HPF := Lib.hid HF; clear hrun ho hb HF)
  clear e0 e1 e2 e3 e4 HA HP
  refine HPF.out.mono ?_
  rintro e w2 ⟨rfl, hd⟩
  have D0 := Lib.hid hd
  clear hd HPF f2
  go_wp2_with fail
  go_loopw [9] (fun iv wr => iv = .int .i64 0 ∧ wr = w2) (fun _ _ => 0)
  case atStart => exact ⟨rfl, rfl⟩
  case round =>
    obtain ⟨rfl, rfl⟩ := hrel
    go_wp2_with fail
    have D : Hid (Duo w0 wr.drew p q o room l' l lo none [] (fun g => if g = w.heap.size then some (.cells #[.int .i64 0, .int .i64 a.n, .string a.p, .string a.q, .slice A 0 c, .slice B a.l.length d] 35) else none)) := Lib.hid (D0.out.drewN 1)
    clear D0
    refine wp_region_held_drew (S := fun w1 => (w1.cell? ⟨w.heap.size, 2, none⟩ = some (.string a.p) ∧ w1.cell? ⟨w.heap.size, 4, none⟩ = some (.slice A 0 c))) (by kernel_rfl) (HCL.out _ _ _ D.out) (fun hHeld => ?_)
    refine held_take 0 36 (v := ?v1) rfl rfl (by kernel_rfl) (by kernel_rfl) (by kernel_rfl) (fun _ _ _ h => h) hHeld (Or.inl ⟨by rfl, ?y1⟩) ?r1
    case y1 => intro w hSw; (try dsimp only at hSw); go_simp; (try with_reducible rfl)
    simp only [List.setIfInBounds_toArray, List.set_cons_zero, List.set_cons_succ]
    refine held_take 2 38 (v := ?v2) rfl rfl (by kernel_rfl) (by kernel_rfl) (by kernel_rfl) (fun _ _ _ h => h) hHeld (Or.inl ⟨by rfl, ?y2⟩) ?r2
    case y2 => intro w hSw; (try dsimp only at hSw); go_simp; (try with_reducible rfl)
    simp only [List.setIfInBounds_toArray, List.set_cons_zero, List.set_cons_succ]
    refine held_take 3 39 (v := ?v3) rfl rfl (by kernel_rfl) (by kernel_rfl) (by kernel_rfl) (fun _ _ _ h => h) hHeld (Or.inl ⟨by rfl, ?y3⟩) ?r3
    case y3 => intro w hSw; (try dsimp only at hSw); go_simp; (try with_reducible rfl)
    simp only [List.setIfInBounds_toArray, List.set_cons_zero, List.set_cons_succ]
    refine held_take 4 40 (v := ?v4) rfl rfl (by kernel_rfl) (by kernel_rfl) (by kernel_rfl) (fun _ _ _ h => h) hHeld (Or.inl ⟨by rfl, ?y4⟩) ?r4
    case y4 => intro w hSw; (try dsimp only at hSw); go_simp; (try with_reducible rfl)
    simp only [List.setIfInBounds_toArray, List.set_cons_zero, List.set_cons_succ]
    refine held_take 5 41 (v := ?v5) rfl rfl (by kernel_rfl) (by kernel_rfl) (by kernel_rfl) (fun _ _ _ h => h) hHeld (Or.inl ⟨by rfl, ?y5⟩) ?r5
    case y5 => intro w hSw; (try dsimp only at hSw); go_simp; (try with_reducible rfl)
    simp only [List.setIfInBounds_toArray, List.set_cons_zero, List.set_cons_succ]
    refine held_take 6 42 (v := ?v6) rfl rfl (by kernel_rfl) (by kernel_rfl) (by kernel_rfl) (fun _ _ _ h => h) hHeld (Or.inl ⟨by rfl, ?y6⟩) ?r6
    case y6 => intro w hSw; (try dsimp only at hSw); go_simp; (try with_reducible rfl)
    simp only [List.setIfInBounds_toArray, List.set_cons_zero, List.set_cons_succ]
    refine wpAnyH_ready (rs := [1]) (by kernel_rfl) (by simp) ?_
    refine AllReadyH.cons (o := ⟨some 37, _, _, _, _, _⟩) rfl (fun K hK => ?_) AllReadyH.nil
    rw [if_pos (by rfl)]
    go_simp
    refine (HNUM.out _ _).mono ?_
    rintro e w' ⟨rfl, rfl⟩
    refine hK.out _ _ hHeld (fun hHeld => ?_)
    clear hK K
    (try simp only [Act.put, List.setIfInBounds_toArray, List.set_cons_zero, List.set_cons_succ])
    refine wpAnyH_ready (rs := [7]) (by kernel_rfl) (by simp) ?_
    refine AllReadyH.cons (o := ⟨some 43, _, _, _, _, _⟩) rfl (fun K hK => ?_) AllReadyH.nil
    rw [if_pos (by rfl)]
    go_simp
    refine (HQ.out _ _ D.out).mono ?_
    rintro e w' ⟨rfl, hs, hd⟩
    clear D
    have D := Lib.hid hd
    clear hd
    refine hK.out _ _ hs (fun hHeld => ?_)
    clear hK K
    (try simp only [Act.put, List.setIfInBounds_toArray, List.set_cons_zero, List.set_cons_succ])
    refine held_take 8 44 (v := ?v7) rfl rfl (by kernel_rfl) (by kernel_rfl) (by kernel_rfl) (fun _ _ _ h => h) hHeld (Or.inl ⟨by rfl, ?y7⟩) ?r7
    case y7 => intro w hSw; (try dsimp only at hSw); go_simp; (try with_reducible rfl)
    simp only [List.setIfInBounds_toArray, List.set_cons_zero, List.set_cons_succ]
    refine held_take 9 6 (v := ?v8) rfl rfl (by kernel_rfl) (by kernel_rfl) (by kernel_rfl) (fun _ _ _ h => h) hHeld (Or.inl ⟨by rfl, ?y8⟩) ?r8
    case y8 => intro w hSw; (try dsimp only at hSw); go_simp; (try with_reducible rfl)
    simp only [List.setIfInBounds_toArray, List.set_cons_zero, List.set_cons_succ]
    refine wpAnyH_done (by kernel_rfl) ?_ _
    have FN := HFIN.out _ D.out
    have HFN := Lib.hid FN
    clear FN D hHeld
    go_wp2
    go_ret
    exact HFN.out
set_option maxHeartbeats 3200000 in
set_option maxRecDepth 4000 in
/-- Append of bytes, which are turned behind it, by both. -/
theorem do_append_some (h : Duo w0 w p q o room l l lo none [] (fun _ => none)) (hf : Fits l) (a : ActM) (A : Option Addr) (c : Nat) (B : Option Addr) (d : Nat) (hw : a.way = 0) (hA : SlCame .u8 w0 A c a.b) (hwf : a.wf) (hn : a.p.size ≤ 100) (hs : a.b.length ≤ 500) (hb0 : 0 < a.b.length) :
    Calls Tryd.prog 9 #[.pointer (some ⟨p, 0, none⟩), .pointer (some ⟨q, 0, none⟩), actV a A c B d] w (DoLeft w0 p q o room l lo) := by
  have hx := h.box (actBox a A c B d)
  have bx := box_cells (hx.held (g := w.heap.size) (ob := actBox a A c B d) (if_pos rfl))
  have HA := Lib.hid (fun ty => new_bytes (W := w.alloc (actBox a A c B d)) ((hA.1.below hx.since).more hx.since.size) hA.2.2.2 hA.2.1 (by omega) ty)
  have HP : Hid (∀ (w1 : World) (C : Option Addr) (cc : Nat), Below (w.alloc (actBox a A c B d)).heap.size (w.alloc (actBox a A c B d)) w1 → Own .u8 5 w1 (w.alloc (actBox a A c B d)).heap.size (.slice C a.b.length cc) a.b → w1.cell? ⟨w.heap.size, 2, none⟩ = some (.string a.p) ∧ ∃ g, C = some ⟨g, 0, none⟩ ∧ a.b.length ≤ cc ∧ cc ≤ maxLen ∧ Calls Tryd.prog 8 #[.pointer (some ⟨p, 0, none⟩), .string a.p, .slice C a.b.length cc] w1 fun e w' => e = .returned (.int .i64 (appendM room l a.p a.b).2) ∧ Turns w0 w' p q o room (appendM room l a.p a.b).1 l lo (fun g => if g = w.heap.size then some (actBox a A c B d) else none) w.heap.size g a.b.length) := Lib.hid fun w1 C cc hb ho => by
    obtain ⟨A2, c2, e, h3, h4, _⟩ := ho.parts
    injection e with e1 _ e3
    subst e1 e3
    obtain ⟨g, cur, hC, hg, hcur, hd⟩ := hx.fresh2 hb ho hb0
    have hne : ¬ w.heap.size = g := by
      have : (w.alloc (actBox a A c B d)).heap.size = w.heap.size + 1 := by simp
      omega
    have hlow : w0.heap.size ≤ g := Nat.le_trans h.since.size (Nat.le_trans (by simp) hg)
    refine ⟨(box_cells (hd.held (g := w.heap.size) (ob := actBox a A c B d) (by rw [if_neg hne, if_pos rfl]))).2.2.1, g, hC, h3, h4, (duo_append hd hf a.p cc (by omega) hwf.2.2 (own_none ho) h3 hs).mono ?_⟩
    rintro e w' ⟨rfl, hd2⟩
    exact ⟨rfl, hne, hlow, cur, fun j hj => ⟨_, hcur j hj⟩, hd2.bare⟩
  have HQ : Hid (∀ (w1 : World) (l1 : List FileM), Duo w0 w1 p q o room l1 l lo none [] (fun g => if g = w.heap.size then some (actBox a A c B d) else none) → Calls Tryd.prog 16 #[.pointer (some ⟨q, 0, none⟩), .string a.p, .slice A a.b.length c] w1 fun e w' => e = .returned (.int .i64 (appendM room l a.p a.b).2) ∧ (w'.cell? ⟨w.heap.size, 2, none⟩ = some (.string a.p) ∧ w'.cell? ⟨w.heap.size, 4, none⟩ = some (.slice A a.b.length c)) ∧ Duo w0 w' p q o room l1 (appendM room l a.p a.b).1 lo none [] (fun g => if g = w.heap.size then some (actBox a A c B d) else none)) := Lib.hid fun w1 l1 hd => by
    refine (duo_rappend hd hf a.p A a.b c hwf.1 hwf.2.2 hA.1 hA.2.2.2 hA.2.1 hs).mono ?_
    rintro e w' ⟨rfl, hd2⟩
    exact ⟨rfl, ⟨(box_cells (hd2.held (g := w.heap.size) (ob := actBox a A c B d) (if_pos rfl))).2.2.1, (box_cells (hd2.held (g := w.heap.size) (ob := actBox a A c B d) (if_pos rfl))).2.2.2.2.1⟩, hd2⟩
  have hg := append_few room l a.p a.b
  have HFIN : Hid (∀ w1 : World, Duo w0 w1 p q o room (appendM room l a.p a.b).1 (appendM room l a.p a.b).1 lo none [] (fun g => if g = w.heap.size then some (actBox a A c B d) else none) → DoLeft w0 p q o room l lo (.returned (.bool true)) w1) := Lib.hid fun w1 hd => ⟨rfl, _, hd.unbox, hg.mono hs⟩
  have HCL : Hid (∀ (w1 : World) (l1 l2 : List FileM), Duo w0 w1 p q o room l1 l2 lo none [] (fun g => if g = w.heap.size then some (actBox a A c B d) else none) → (w1.cell? ⟨w.heap.size, 2, none⟩ = some (.string a.p) ∧ w1.cell? ⟨w.heap.size, 4, none⟩ = some (.slice A a.b.length c))) := Lib.hid fun w1 l1 l2 hd2 => ⟨(box_cells (hd2.held (g := w.heap.size) (ob := actBox a A c B d) (if_pos rfl))).2.2.1, (box_cells (hd2.held (g := w.heap.size) (ob := actBox a A c B d) (if_pos rfl))).2.2.2.2.1⟩
  obtain ⟨e0, e1, e2, e3, e4, _⟩ := bx
  rw [hw] at e0
  generalize appendM room l a.p a.b = r at *
  obtain ⟨l', er⟩ := r
  dsimp only at HP HQ HFIN
  obtain ⟨L, hL⟩ : ∃ L, a.b.length = L := ⟨_, rfl⟩
  unfold actBox at e0 e1 e2 e3 e4 HP HQ HFIN HA HCL
  unfold actV
  rw [hw] at e1 e2 e3 e4 HP HQ HFIN HA HCL ⊢
  simp only [hL] at e4 HP HQ HFIN HA HCL hb0 ⊢
  have HNUM := Lib.hid num_any
  have q1 : (er == er) = true := by simp
  clear h hx hf hn hw hg hA hwf hs hL
  go_enter Tryd.func9, Tryd.ntmps9
  go_wp2_with (at_builtin; obtain ⟨C, cc, w1, hrun, ho, hb⟩ := HA.out 31; refine wpList_append_run rfl (.const (.slice none 0 0)) (.tmp 15) 31 rfl _ _ rfl rfl _ w1 hrun ?_; obtain ⟨f2, HF⟩ := HP.out w1 C cc hb ho; have HPF := Lib.hid HF; clear hrun ho hb HF)
  clear e0 e1 e2 e3 e4 HA HP
  obtain ⟨g, rfl, hcl, hcm, HC⟩ := HPF.out
  unfold maxLen at hcm
  have HC2 := Lib.hid HC
  clear HPF HC
  refine HC2.out.mono ?_
  rintro e w2 ⟨rfl, hd⟩
  have D0 := Lib.hid hd
  clear hd HC2 f2
  go_wp2_with fail
  go_loopw [9] (fun iv wr => ∃ i : Nat, iv = .int .i64 (i : Int) ∧ i ≤ L ∧ Turns w0 wr p q o room l' l lo (fun g => if g = w.heap.size then some (.cells #[.int .i64 0, .int .i64 a.n, .string a.p, .string a.q, .slice A L c, .slice B a.l.length d] 35) else none) w.heap.size g L) (fun iv _ => L - (intOf iv).toNat)
  case atStart => exact ⟨0, rfl, Nat.zero_le _, D0.out⟩
  case round =>
    obtain ⟨i, rfl, hi, hT⟩ := hrel
    have HT := Lib.hid hT
    clear hT D0
    by_cases hlt : i < L
    · obtain ⟨y, k1, k2, hnx⟩ := HT.out.at_ hlt
      have HNX := Lib.hid hnx
      clear hnx
      go_wp2_with fail
      go_roundw
      case rel => exact ⟨i + 1, by go_num, hlt, HNX.out _⟩
      case measure => simp [intOf]; omega
    obtain rfl : i = L := by omega
    go_wp2_with fail
    have D : Hid (Duo w0 wr.drew p q o room l' l lo none [] (fun g => if g = w.heap.size then some (.cells #[.int .i64 0, .int .i64 a.n, .string a.p, .string a.q, .slice A i c, .slice B a.l.length d] 35) else none)) := Lib.hid (HT.out.duo.drewN 1)
    clear HT
    refine wp_region_held_drew (S := fun w1 => (w1.cell? ⟨w.heap.size, 2, none⟩ = some (.string a.p) ∧ w1.cell? ⟨w.heap.size, 4, none⟩ = some (.slice A i c))) (by kernel_rfl) (HCL.out _ _ _ D.out) (fun hHeld => ?_)
    refine held_take 0 36 (v := ?v9) rfl rfl (by kernel_rfl) (by kernel_rfl) (by kernel_rfl) (fun _ _ _ h => h) hHeld (Or.inl ⟨by rfl, ?y9⟩) ?r9
    case y9 => intro w hSw; (try dsimp only at hSw); go_simp; (try with_reducible rfl)
    simp only [List.setIfInBounds_toArray, List.set_cons_zero, List.set_cons_succ]
    refine held_take 2 38 (v := ?v10) rfl rfl (by kernel_rfl) (by kernel_rfl) (by kernel_rfl) (fun _ _ _ h => h) hHeld (Or.inl ⟨by rfl, ?y10⟩) ?r10
    case y10 => intro w hSw; (try dsimp only at hSw); go_simp; (try with_reducible rfl)
    simp only [List.setIfInBounds_toArray, List.set_cons_zero, List.set_cons_succ]
    refine held_take 3 39 (v := ?v11) rfl rfl (by kernel_rfl) (by kernel_rfl) (by kernel_rfl) (fun _ _ _ h => h) hHeld (Or.inl ⟨by rfl, ?y11⟩) ?r11
    case y11 => intro w hSw; (try dsimp only at hSw); go_simp; (try with_reducible rfl)
    simp only [List.setIfInBounds_toArray, List.set_cons_zero, List.set_cons_succ]
    refine held_take 4 40 (v := ?v12) rfl rfl (by kernel_rfl) (by kernel_rfl) (by kernel_rfl) (fun _ _ _ h => h) hHeld (Or.inl ⟨by rfl, ?y12⟩) ?r12
    case y12 => intro w hSw; (try dsimp only at hSw); go_simp; (try with_reducible rfl)
    simp only [List.setIfInBounds_toArray, List.set_cons_zero, List.set_cons_succ]
    refine held_take 5 41 (v := ?v13) rfl rfl (by kernel_rfl) (by kernel_rfl) (by kernel_rfl) (fun _ _ _ h => h) hHeld (Or.inl ⟨by rfl, ?y13⟩) ?r13
    case y13 => intro w hSw; (try dsimp only at hSw); go_simp; (try with_reducible rfl)
    simp only [List.setIfInBounds_toArray, List.set_cons_zero, List.set_cons_succ]
    refine held_take 6 42 (v := ?v14) rfl rfl (by kernel_rfl) (by kernel_rfl) (by kernel_rfl) (fun _ _ _ h => h) hHeld (Or.inl ⟨by rfl, ?y14⟩) ?r14
    case y14 => intro w hSw; (try dsimp only at hSw); go_simp; (try with_reducible rfl)
    simp only [List.setIfInBounds_toArray, List.set_cons_zero, List.set_cons_succ]
    refine wpAnyH_ready (rs := [1]) (by kernel_rfl) (by simp) ?_
    refine AllReadyH.cons (o := ⟨some 37, _, _, _, _, _⟩) rfl (fun K hK => ?_) AllReadyH.nil
    rw [if_pos (by rfl)]
    go_simp
    refine (HNUM.out _ _).mono ?_
    rintro e w' ⟨rfl, rfl⟩
    refine hK.out _ _ hHeld (fun hHeld => ?_)
    clear hK K
    (try simp only [Act.put, List.setIfInBounds_toArray, List.set_cons_zero, List.set_cons_succ])
    refine wpAnyH_ready (rs := [7]) (by kernel_rfl) (by simp) ?_
    refine AllReadyH.cons (o := ⟨some 43, _, _, _, _, _⟩) rfl (fun K hK => ?_) AllReadyH.nil
    rw [if_pos (by rfl)]
    go_simp
    refine (HQ.out _ _ D.out).mono ?_
    rintro e w' ⟨rfl, hs, hd⟩
    clear D
    have D := Lib.hid hd
    clear hd
    refine hK.out _ _ hs (fun hHeld => ?_)
    clear hK K
    (try simp only [Act.put, List.setIfInBounds_toArray, List.set_cons_zero, List.set_cons_succ])
    refine held_take 8 44 (v := ?v15) rfl rfl (by kernel_rfl) (by kernel_rfl) (by kernel_rfl) (fun _ _ _ h => h) hHeld (Or.inl ⟨by rfl, ?y15⟩) ?r15
    case y15 => intro w hSw; (try dsimp only at hSw); go_simp; (try with_reducible rfl)
    simp only [List.setIfInBounds_toArray, List.set_cons_zero, List.set_cons_succ]
    refine held_take 9 6 (v := ?v16) rfl rfl (by kernel_rfl) (by kernel_rfl) (by kernel_rfl) (fun _ _ _ h => h) hHeld (Or.inl ⟨by rfl, ?y16⟩) ?r16
    case y16 => intro w hSw; (try dsimp only at hSw); go_simp; (try with_reducible rfl)
    simp only [List.setIfInBounds_toArray, List.set_cons_zero, List.set_cons_succ]
    refine wpAnyH_done (by kernel_rfl) ?_ _
    have FN := HFIN.out _ D.out
    have HFN := Lib.hid FN
    clear FN D hHeld
    go_wp2
    go_ret
    exact HFN.out
end
end Go.Proofs.YtefjbefmmmllbaaDoor
