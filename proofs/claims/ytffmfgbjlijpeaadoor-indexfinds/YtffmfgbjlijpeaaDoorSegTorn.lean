/- What SegmentTorn and SegmentFrom want: records numbered anew, the first ones of a list. -/
import Derived.Test.YtffmfgbjlijpeaaDoorRecs
namespace Go.Proofs.YtffmfgbjlijpeaaDoor
open Go.RowKit

theorem goods_append (a b : List Rec) : goods (a ++ b) = goods a ++ goods b := by unfold goods; rw [List.filter_append]
/-- The right ones of records that are numbered anew. -/
def newG (l : List Rec) : List Rec := goods (renum 1 0 l)
theorem newG_snoc (l : List Rec) (i : Nat) (h : i < l.length) (hr : (numbered l[i] (i : Int)).right) : newG (l.take (i + 1)) = newG (l.take i) ++ [numbered l[i] (i : Int)] := by
  unfold newG
  rw [renum_take 1 l i h, goods_append, Int.one_mul]
  congr 1
  unfold goods
  simp [hr]
theorem newG_skip (l : List Rec) (i : Nat) (h : i < l.length) (hr : ¬ (numbered l[i] (i : Int)).right) : newG (l.take (i + 1)) = newG (l.take i) := by
  unfold newG
  rw [renum_take 1 l i h, goods_append, Int.one_mul]
  conv => rhs; rw [← List.append_nil (goods (renum 1 0 (l.take i)))]
  congr 1
  unfold goods
  simp [hr]
theorem newG_right (l : List Rec) : ∀ r ∈ newG l, r.right := fun _ hr => goods_right hr
theorem newG_up (l : List Rec) : Up none (newG l) := (renum_rises (k := 1) (by decide) 0 l).goods.up
theorem newG_length (l : List Rec) : (newG l).length ≤ l.length := by
  have h1 := goods_length (renum 1 0 l)
  rw [renum_length] at h1
  exact h1
theorem newG_bytes (l : List Rec) (j : Nat) : segL ((newG l).take j) = segF ((newG l).take j) := by
  unfold segL
  rw [goods_all fun r hr => newG_right l r (List.mem_of_mem_take hr)]
theorem RecsLie.take {w : World} {A : Option Addr} {rs : List Rec} {cap : Nat} (h : RecsLie w A rs cap) {j : Nat} (hj : j ≤ rs.length) : RecsLie w A (rs.take j) cap := by
  refine ⟨fun hn => ?_, by rw [List.length_take]; have := h.2.1; omega, h.2.2.1, fun r hr => h.2.2.2 r (List.mem_of_mem_take hr)⟩
  obtain ⟨b, off, e, hb, hc⟩ := h.1 (by rintro rfl; simp at hn)
  refine ⟨b, off, e, hb, fun i hi => ?_⟩
  rw [List.length_take] at hi
  have := hc i (by omega)
  rw [List.getElem_take]
  exact this
/-- What a torn segment's Scan tells. -/
theorem torn_tells (l : List Rec) (n : Nat) (hn : n ≤ (segF (newG l)).length) {rs : List Rec} {k : Nat} (h : SegIs none ((segF (newG l)).take n) rs k) :
    ∃ j, j ≤ (newG l).length ∧ rs = (newG l).take j ∧ k = (segF ((newG l).take j)).length ∧ k ≤ n ∧ (j = (newG l).length ∨ n < (segF ((newG l).take (j + 1))).length) := by
  obtain ⟨j, h1, h2, h3⟩ := whole_of (newG l) n hn
  obtain ⟨rfl, rfl⟩ := (seg_torn (newG l) n j (newG_right l) (newG_up l) h1 h2 hn h3).one h
  exact ⟨j, h1, rfl, rfl, h2, h3⟩
end Go.Proofs.YtffmfgbjlijpeaaDoor
