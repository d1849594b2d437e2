/- What the statement's own Do makes of the stores: List, Fail, and ways that are none. -/
import Derived.Test.YtfbdmagonjjjoaaDoorSDo
namespace Go.Proofs.YtfbdmagonjjjoaaDoor
open Go.RowKit Go.Maps

theorem own_none {k : IntKind} {e : TypeId} {w : World} {b n c : Nat} {A : Option Addr} {xs : List Int} (h : Own k e w b (.slice A n c) xs) : A = none → c = 0 := fun h0 => by
  subst h0
  rcases h.2 with ⟨e, _⟩ | ⟨g, cap, cur, e, _⟩
  · injection e
  · cases e
section
variable {w0 w : World} {p q o : Nat} {room : Int} {l lo : List FileM} {bad : List Int}
set_option maxHeartbeats 1600000 in
set_option maxRecDepth 4000 in
/-- List, by both. -/
theorem do_list (h : Duo w0 w p q o room l bad l bad lo none [] (fun _ => none)) (hf : Fits l bad) (a : ActM) (A : Option Addr) (c : Nat) (B : Option Addr) (d : Nat) (hw : a.way = 3) :
    Calls Tryd.prog 11 #[.pointer (some ⟨p, 0, none⟩), .pointer (some ⟨q, 0, none⟩), actV a A c B d] w (DoLeft w0 p q o room l bad lo) := by
  have hx := h.box (actBox a A c B d)
  have bx := box_cells (hx.held (g := w.heap.size) (ob := actBox a A c B d) (if_pos rfl))
  have hrl : (faultyL (bad.headD 0) l).1.length < 1000000000 := by
    have := hf.many
    unfold faultyL namesM
    split <;> simp
    omega
  have H1 := Lib.hid (duo_list hx hf)
  have H2 := Lib.hid (fun (wx w1 : World) (v : Value) (ns : List ByteArray) (hd : Duo w0 wx p q o room l bad.tail l bad lo none [] (fun g => if g = w.heap.size then some (actBox a A c B d) else none)) (hb : Below wx.heap.size wx w1) (ho : OwnT w1 wx.heap.size v ns) => duo_rlist hd hf hb ho)
  have H3 : Hid (∀ (w' : World) (m : Nat), Duo w0 w' p q o room l bad.tail l bad.tail lo none [] (fun g => if g = w.heap.size then some (actBox a A c B d) else none) → DoLeft w0 p q o room l bad lo (.returned (.bool true)) (w'.drewN m)) := Lib.hid fun w' m hd => ⟨rfl, l, bad.tail, (hd.drewN m).unbox, Nat.le_succ _, Nat.le_add_right _ _, tail_le bad⟩
  obtain ⟨e0, _, _, _⟩ := bx
  rw [hw] at e0
  generalize faultyL (bad.headD 0) l = r at *
  obtain ⟨ns, er⟩ := r
  dsimp only at hrl H1 H2
  unfold actBox at e0 H1 H2 H3
  unfold actV
  rw [hw] at H1 H2 H3 ⊢
  have hnum := Lib.hid num_any
  have q1 : (er == er) = true := by simp
  have HRL := Lib.hid hrl
  clear h hx hf hw hrl
  go_enter Tryd.func11, Tryd.ntmps11
  go_wp2_with fail
  refine H1.out.mono ?_
  rintro e w1 ⟨v, wx, rfl, hd, hb, ho⟩
  have HR := Lib.hid (H2.out wx w1 v ns hd hb ho)
  obtain ⟨A1, c1, rfl, _⟩ := ho.texts
  clear H1 H2 hd hb ho e0
  go_wp2_with fail
  refine HR.out.mono ?_
  rintro e w2 ⟨v2, rfl, hd2, ho1, ho2⟩
  obtain ⟨A2, c2, hv2, ht2⟩ := ho2.texts
  obtain ⟨A1', c1', hv1, ht1⟩ := ho1.texts
  injection hv1 with hv1 _ hv1c
  subst hv1 hv1c hv2
  have HS := Lib.hid (samestr_any w2 ns A1 A2 c1 c2 ht1 ht2 HRL.out)
  have FN := Lib.hid (fun m => H3.out w2 m hd2)
  clear HR H3 hd2 ho1 ho2 ht1 ht2
  generalize ns.length = L at *
  go_wp2_with (first | (go_at_call 15; refine (hnum.out _ _).mono ?_; rintro e w' ⟨rfl, rfl⟩) | (go_at_call 24; refine HS.out.mono ?_; rintro e w' ⟨rfl, m, rfl⟩))
  go_ret
  exact FN.out m
set_option maxHeartbeats 1600000 in
set_option maxRecDepth 4000 in
/-- Fail, by both. -/
theorem do_fail (h : Duo w0 w p q o room l bad l bad lo none [] (fun _ => none)) (hf : Fits l bad) (a : ActM) (A : Option Addr) (c : Nat) (B : Option Addr) (d : Nat) (hw : a.way = 4) (hB : SlCame .i64 w0 B d a.l) (hs : a.l.length ≤ 20) :
    Calls Tryd.prog 11 #[.pointer (some ⟨p, 0, none⟩), .pointer (some ⟨q, 0, none⟩), actV a A c B d] w (DoLeft w0 p q o room l bad lo) := by
  have hx := h.box (actBox a A c B d)
  have bx := box_cells (hx.held (g := w.heap.size) (ob := actBox a A c B d) (if_pos rfl))
  have hlz : Lies .i64 (w.alloc (actBox a A c B d)) w0.heap.size B a.l := hB.1.below hx.since
  have HA := Lib.hid (fun ty => more_ints (W := w.alloc (actBox a A c B d)) (base := (w.alloc (actBox a A c B d)).heap.size) (v := .slice none 0 0) (xs := []) (c := d) Own.nil (Nat.le_refl _) hlz hB.2.2.2 hB.2.1 (by simp; omega) ty)
  simp only [List.nil_append] at HA
  have H1 : Hid (∀ (w1 : World) (C : Option Addr) (cc : Nat), Below (w.alloc (actBox a A c B d)).heap.size (w.alloc (actBox a A c B d)) w1 → Own .i64 3 w1 (w.alloc (actBox a A c B d)).heap.size (.slice C a.l.length cc) a.l → Calls Tryd.prog 12 #[.pointer (some ⟨p, 0, none⟩), .slice C a.l.length cc] w1 fun e w' => e = .returned (.tuple #[]) ∧ w'.cell? ⟨w.heap.size, 3, none⟩ = some (.slice B a.l.length d) ∧ Duo w0 w' p q o room l (bad ++ a.l) l bad lo none [] (fun g => if g = w.heap.size then some (actBox a A c B d) else none)) := Lib.hid fun w1 C cc hb ho => by
    obtain ⟨A2, c2, e, h1, h2, h3⟩ := ho.parts
    injection e with e1 _ e3
    subst e1 e3
    refine (duo_fail (hx.below hb) hf C a.l cc h3 (own_none ho) h1 (by omega)).mono ?_
    rintro e w' ⟨rfl, hd⟩
    exact ⟨rfl, (box_cells (hd.held (g := w.heap.size) (ob := actBox a A c B d) (if_pos rfl))).2.2.2, hd⟩
  have H2 : Hid (∀ w1 : World, Duo w0 w1 p q o room l (bad ++ a.l) l bad lo none [] (fun g => if g = w.heap.size then some (actBox a A c B d) else none) → Calls Tryd.prog 25 #[.pointer (some ⟨q, 0, none⟩), .slice B a.l.length d] w1 fun e w' => e = .returned (.tuple #[]) ∧ DoLeft w0 p q o room l bad lo (.returned (.bool true)) w') := Lib.hid fun w1 hd => by
    refine (duo_rfail hd hf B a.l d ((hB.1.below hd.since).more hd.since.size) hB.2.2.2 hB.2.1 (by omega)).mono ?_
    rintro e w' ⟨rfl, hd2⟩
    exact ⟨rfl, rfl, l, bad ++ a.l, hd2.unbox, Nat.le_succ _, Nat.le_add_right _ _, by rw [List.length_append]; omega⟩
  obtain ⟨e0, _, _, e3⟩ := bx
  rw [hw] at e0
  unfold actBox at e0 e3 H1 H2 HA
  unfold actV
  rw [hw] at e0 e3 H1 H2 HA ⊢
  obtain ⟨L, hL⟩ : ∃ L, a.l.length = L := ⟨_, rfl⟩
  rw [hL] at e0 e3 H1 H2 HA ⊢
  clear h hx hf hw hB hs hlz hL
  go_enter Tryd.func11, Tryd.ntmps11
  go_wp2_with (at_builtin; obtain ⟨C, cc, w1, hrun, ho, hb⟩ := HA.out 33; refine wpList_append_run rfl (.const (.slice none 0 0)) (.tmp 98) 33 rfl _ _ rfl rfl _ w1 hrun ?_; have HF := Lib.hid (H1.out w1 C cc hb ho); clear hrun ho hb)
  refine HF.out.mono ?_
  rintro e w2 ⟨rfl, f3, hd⟩
  have HF2 := Lib.hid (H2.out w2 hd)
  clear HF H1 H2 HA e0 e3 hd
  go_wp2_with fail
  refine HF2.out.mono ?_
  rintro e w3 ⟨rfl, hfin⟩
  go_wp2
  go_ret
  exact hfin
set_option maxHeartbeats 800000 in
/-- A way that is none. -/
theorem do_none (h : Duo w0 w p q o room l bad l bad lo none [] (fun _ => none)) (a : ActM) (A : Option Addr) (c : Nat) (B : Option Addr) (d : Nat) (h0 : a.way ≠ 0) (h1 : a.way ≠ 1) (h2 : a.way ≠ 2) (h3 : a.way ≠ 3) (h4 : a.way ≠ 4) :
    Calls Tryd.prog 11 #[.pointer (some ⟨p, 0, none⟩), .pointer (some ⟨q, 0, none⟩), actV a A c B d] w (DoLeft w0 p q o room l bad lo) := by
  have hx := h.box (actBox a A c B d)
  have bx := box_cells (hx.held (g := w.heap.size) (ob := actBox a A c B d) (if_pos rfl))
  obtain ⟨e0, _, _, _⟩ := bx
  have FN : Hid (DoLeft w0 p q o room l bad lo (.returned (.bool true)) (w.alloc (actBox a A c B d))) := Lib.hid ⟨rfl, l, bad, hx.unbox, Nat.le_succ _, Nat.le_add_right _ _, Nat.le_add_right _ _⟩
  unfold actBox at e0 FN
  unfold actV
  obtain ⟨k, hk⟩ : ∃ k, a.way = k := ⟨_, rfl⟩
  rw [hk] at h0 h1 h2 h3 h4 e0 FN ⊢
  have b0 : (k == 0) = false := by simpa using h0
  have b1 : (k == 1) = false := by simpa using h1
  have b2 : (k == 2) = false := by simpa using h2
  have b3 : (k == 3) = false := by simpa using h3
  have b4 : (k == 4) = false := by simpa using h4
  clear h hx h0 h1 h2 h3 h4 hk
  go_enter Tryd.func11, Tryd.ntmps11
  go_wp2
  go_ret
  exact FN.out
end
end Go.Proofs.YtfbdmagonjjjoaaDoor
