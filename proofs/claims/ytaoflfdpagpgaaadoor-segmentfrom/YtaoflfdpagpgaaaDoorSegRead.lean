/- What SegmentFrom wants: all records at three times their places, and how far one has come who reads them on. -/
import Derived.Test.YtaoflfdpagpgaaaDoorSegTorn
import Derived.Test.YtaoflfdpagpgaaaDoorRecsMore
namespace Go.Proofs.YtaoflfdpagpgaaaDoor
open Go.RowKit

def allR (l : List Rec) : List Rec := renum 3 0 l
theorem allR_length (l : List Rec) : (allR l).length = l.length := renum_length 3 0 l
theorem allR_snoc (l : List Rec) (i : Nat) (h : i < l.length) : allR (l.take (i + 1)) = allR (l.take i) ++ [numbered l[i] (3 * (i : Int))] := renum_take 3 l i h
theorem renum_mem (k : Int) (n : Nat) (l : List Rec) : ∀ r ∈ renum k n l, ∃ q ∈ l, ∃ j : Nat, n ≤ j ∧ j < n + l.length ∧ r = numbered q (k * j) := by
  induction l generalizing n with
  | nil => intro r hr; cases hr
  | cons a l ih =>
    intro r hr
    rw [renum] at hr
    rcases List.mem_cons.1 hr with e | hr
    · exact ⟨a, List.mem_cons_self .., n, Nat.le_refl _, by rw [List.length_cons]; omega, e⟩
    · obtain ⟨q, hq, j, h1, h2, e⟩ := ih (n + 1) r hr
      exact ⟨q, List.mem_cons_of_mem _ hq, j, by omega, by rw [List.length_cons]; omega, e⟩
theorem allR_wf (l : List Rec) (h : ∀ r ∈ l, r.wf) (hl : l.length ≤ 60) : ∀ r ∈ allR l, r.wf ∧ 0 ≤ r.off ∧ r.off ≤ 180 := by
  intro r hr
  obtain ⟨q, hq, j, h1, h2, rfl⟩ := renum_mem 3 0 l r hr
  refine ⟨?_, by show 0 ≤ 3 * (j : Int); omega, by show 3 * (j : Int) ≤ 180; omega⟩
  have hq' := h q hq
  unfold Rec.wf at hq' ⊢
  exact ⟨by show _ ≤ 3 * (j : Int); omega, by show 3 * (j : Int) ≤ _; omega, hq'.2.2⟩
/-- Of records, those of an offset and more. -/
def ge (l : List Rec) (offset : Int) : List Rec := l.filter fun r => decide (offset ≤ r.off)
theorem ge_snoc (l : List Rec) (offset : Int) (i : Nat) (h : i < l.length) (ho : offset ≤ l[i].off) : ge (l.take (i + 1)) offset = ge (l.take i) offset ++ [l[i]] := by
  unfold ge
  rw [List.take_succ_eq_append_getElem h, List.filter_append]
  simp [ho]
theorem ge_skip (l : List Rec) (offset : Int) (i : Nat) (h : i < l.length) (ho : ¬ offset ≤ l[i].off) : ge (l.take (i + 1)) offset = ge (l.take i) offset := by
  unfold ge
  rw [List.take_succ_eq_append_getElem h, List.filter_append]
  simp [ho]
theorem ge_length (l : List Rec) (offset : Int) : (ge l offset).length ≤ l.length := List.length_filter_le _ _
/-- One who was told nothing has read all. -/
theorem read_all {all : List Rec} {offset at_ max : Int} {c : Nat} (h : Reading all (ge all offset) at_ c) (hm : 1 ≤ max) (h0 : fromM all at_ max = []) : (ge all offset).take c = ge all offset := by
  have ht := h.told max
  rw [h0] at ht
  have h1 := congrArg List.length ht
  rw [List.length_nil, List.length_take, List.length_drop] at h1
  exact List.take_of_length_le (by omega)
theorem RecsLie.last {w : World} {A : Option Addr} {rs : List Rec} {cap n : Nat} (h : RecsLie w A rs cap) (hn : rs.length = n + 1) : ∃ b off, A = some ⟨b, off, none⟩ ∧ b < w.heap.size ∧ (∀ i (h : i < rs.length), RecAt w b (off + i * 5) rs[i]) ∧ ∃ r, rs.getLast? = some r ∧ RecAt w b (off + n * 5) r := by
  obtain ⟨b, off, e, hb, hc⟩ := h.1 (by rintro rfl; simp at hn)
  refine ⟨b, off, e, hb, hc, rs[n]'(by omega), ?_, hc n (by omega)⟩
  rw [List.getLast?_eq_getElem?, show rs.length - 1 = n by omega, List.getElem?_eq_getElem]
end Go.Proofs.YtaoflfdpagpgaaaDoor
