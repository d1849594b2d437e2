/- A contract of the program's own wipe: it makes a field zero. -/
import Derived.Test.YtiglignfjegilaaDoorVAssert
import Derived.Handy
import Derived.Laws.Rows
namespace Go.Proofs.YtiglignfjegilaaDoor
open Go.RowKit

/-- The records' slice behind a wiping. -/
def wipeV (v : Value) : Fld → Value
  | .recs => .slice none 0 0
  | _ => v
theorem set_num {W : World} {g k : Nat} {v : Value} {c : Cmd} (x : Int) (h : W.heap[g]? = some (cmdO v c)) (hk : isNum k) : (W.setCell ⟨g, k, none⟩ (.int .i64 x)).heap[g]? = some (cmdO v (c.setNum k x)) := by
  rw [heap_setCell_same _ _ _ _ _ _ h]
  rcases hk with rfl | rfl | rfl | rfl | rfl | rfl | rfl | rfl | rfl | rfl <;> rfl
theorem cgrown_set {w : World} {g : Nat} (a : Nat) (x : Value) (o : Obj) : w.grownBy ((w.setCell ⟨g, a, none⟩ x).alloc o) (some g) := by
  have h := (Below.refl (w.setCell ⟨g, a, none⟩ x).heap.size (w.setCell ⟨g, a, none⟩ x)).alloc (Nat.le_refl _) o
  have hs : (w.setCell ⟨g, a, none⟩ x).heap.size = w.heap.size := by simp [World.setCell]
  exact ⟨h.os, h.tape, h.output, by rw [← hs]; exact h.size, fun k hk hne => (h.block k (by rw [hs]; exact hk)).trans (heap_setCell_other w ⟨g, a, none⟩ k x fun e => hne (by rw [e]))⟩
theorem cmd_alloc {w : World} {g a : Nat} {x : Value} {o' : Obj} (hg : g < w.heap.size) (h : (w.setCell ⟨g, a, none⟩ x).heap[g]? = some o') (o : Obj) : ((w.setCell ⟨g, a, none⟩ x).alloc o).heap[g]? = some o' :=
  (Below.heap_alloc _ o g (by simpa [World.setCell] using hg)).trans h
/-- That a cell of the command may be written, in the next world too. -/
theorem cmd_writes {w : World} {g : Nat} {v : Value} {c : Cmd} (h : w.heap[g]? = some (cmdO v c)) (o : Obj) : (w.alloc o).heap[g]? = some (cmdO v c) ∧ ∀ j, (w.alloc o).frozen? ⟨g, j, none⟩ = false := by
  have hlt : g < w.heap.size := (Array.getElem?_eq_some_iff.1 h).1
  have h2 : (w.alloc o).heap[g]? = some (cmdO v c) := (Below.heap_alloc w o g hlt).trans h
  exact ⟨h2, fun j => frozen_of_row _ g j _ _ h2⟩
set_option maxHeartbeats 800000 in
theorem wipe_any (w : World) (g : Nat) (v : Value) (c : Cmd) (f : Fld) (hf : f.good) (h : w.heap[g]? = some (cmdO v c)) :
    Calls Tryd.prog 18 #[faceF g f] w (fun e w' => e = .returned (.tuple #[]) ∧ w.grownBy w' (some g) ∧ w'.heap[g]? = some (cmdO (wipeV v f) (f.wipe c))) := by
  have hw2 := fun o => cmd_writes h o
  have hz := fun o j => (hw2 o).2 j
  have H2 := Lib.hid (fun o => (hw2 o).1)
  cases f with
  | num k lo hi =>
    have gk : ∀ o, (w.alloc o).cell? ⟨g, k, none⟩ = some (.int .i64 (c.num k)) := fun o => num_at (H2.out o) hf.1
    have hzk := fun o => hz o k
    have hlt : g < w.heap.size := (Array.getElem?_eq_some_iff.1 h).1
    have HG : Hid (∀ o, w.grownBy ((w.setCell ⟨g, k, none⟩ (.int .i64 0)).alloc o) (some g)) := Lib.hid fun o => cgrown_set _ _ _
    have HS : Hid (∀ o, ((w.setCell ⟨g, k, none⟩ (.int .i64 0)).alloc o).heap[g]? = some (cmdO (wipeV v (.num k lo hi)) (Fld.wipe c (.num k lo hi)))) := Lib.hid fun o => cmd_alloc hlt (set_num 0 h hf.1) o
    clear hw2 hz h
    unfold faceF
    have a_num := ta_num_num
    have a_recs := ta_num_recs
    have a_group := ta_num_group
    have a_sum := ta_num_sum
    go_enter Tryd.func18, Tryd.ntmps18
    go_wp2_with fail
    go_returns
    exact ⟨rfl, HG.out _, HS.out _⟩
  | recs =>
    have gk : ∀ o, (w.alloc o).cell? ⟨g, 3, none⟩ = some v := fun o => (cmd_at (H2.out o)).2.2.2.1
    have hzk := fun o => hz o 3
    have hlt : g < w.heap.size := (Array.getElem?_eq_some_iff.1 h).1
    have HG : Hid (∀ o, w.grownBy ((w.setCell ⟨g, 3, none⟩ (.slice none 0 0)).alloc o) (some g)) := Lib.hid fun o => cgrown_set _ _ _
    have HS : Hid (∀ o, ((w.setCell ⟨g, 3, none⟩ (.slice none 0 0)).alloc o).heap[g]? = some (cmdO (wipeV v .recs) (Fld.wipe c .recs))) := Lib.hid fun o => cmd_alloc hlt ((heap_setCell_same _ _ _ _ _ _ h).trans rfl) o
    clear hw2 hz h
    unfold faceF
    have a_num := ta_recs_num
    have a_recs := ta_recs_recs
    have a_group := ta_recs_group
    have a_sum := ta_recs_sum
    go_enter Tryd.func18, Tryd.ntmps18
    go_wp2_with fail
    go_returns
    exact ⟨rfl, HG.out _, HS.out _⟩
  | group =>
    have gk : ∀ o, (w.alloc o).cell? ⟨g, 4, none⟩ = some (.string c.group) := fun o => (cmd_at (H2.out o)).2.2.2.2.1
    have hzk := fun o => hz o 4
    have hlt : g < w.heap.size := (Array.getElem?_eq_some_iff.1 h).1
    have HG : Hid (∀ o, w.grownBy ((w.setCell ⟨g, 4, none⟩ (.string ⟨#[]⟩)).alloc o) (some g)) := Lib.hid fun o => cgrown_set _ _ _
    have HS : Hid (∀ o, ((w.setCell ⟨g, 4, none⟩ (.string ⟨#[]⟩)).alloc o).heap[g]? = some (cmdO (wipeV v .group) (Fld.wipe c .group))) := Lib.hid fun o => cmd_alloc hlt ((heap_setCell_same _ _ _ _ _ _ h).trans rfl) o
    clear hw2 hz h
    unfold faceF
    have a_num := ta_group_num
    have a_recs := ta_group_recs
    have a_group := ta_group_group
    have a_sum := ta_group_sum
    go_enter Tryd.func18, Tryd.ntmps18
    go_wp2_with fail
    go_returns
    exact ⟨rfl, HG.out _, HS.out _⟩
  | sum =>
    have gk : ∀ o, (w.alloc o).cell? ⟨g, 8, none⟩ = some (.int .u32 c.sum) := fun o => (cmd_at (H2.out o)).2.2.2.2.2.2.2.2.1
    have hzk := fun o => hz o 8
    have hlt : g < w.heap.size := (Array.getElem?_eq_some_iff.1 h).1
    have HG : Hid (∀ o, w.grownBy ((w.setCell ⟨g, 8, none⟩ (.int .u32 0)).alloc o) (some g)) := Lib.hid fun o => cgrown_set _ _ _
    have HS : Hid (∀ o, ((w.setCell ⟨g, 8, none⟩ (.int .u32 0)).alloc o).heap[g]? = some (cmdO (wipeV v .sum) (Fld.wipe c .sum))) := Lib.hid fun o => cmd_alloc hlt ((heap_setCell_same _ _ _ _ _ _ h).trans rfl) o
    clear hw2 hz h
    unfold faceF
    have a_num := ta_sum_num
    have a_recs := ta_sum_recs
    have a_group := ta_sum_group
    have a_sum := ta_sum_sum
    go_enter Tryd.func18, Tryd.ntmps18
    go_wp2_with fail
    go_returns
    exact ⟨rfl, HG.out _, HS.out _⟩
end Go.Proofs.YtiglignfjegilaaDoor
