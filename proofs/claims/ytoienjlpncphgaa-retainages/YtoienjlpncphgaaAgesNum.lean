/- What chapter 14's RetainAges wants: a list of segments that grows. No statement of the program is proved here but what memory holds. -/
import Derived.Test.YtoienjlpncphgaaSegLie
namespace Go.Proofs.Ytoienjlpncphgaa

theorem goes_nokeep {age now : Int} {s : LSeg} {l : List LSeg} : goesB 0 age now s l = (s.shut && oldB age now s.time) := by
  unfold goesB muchB
  simp
theorem dropL_snoc {age now : Int} (s : LSeg) : ∀ l : List LSeg, dropL 0 age now (l ++ [s]) = if dropL 0 age now l = l.length then (if (s.shut && oldB age now s.time) = true then l.length + 1 else l.length) else dropL 0 age now l
  | [] => by simp [dropL, goes_nokeep]
  | x :: l => by
    have ih := dropL_snoc (age := age) (now := now) s l
    have e1 : dropL 0 age now (x :: (l ++ [s])) = if goesB 0 age now x (x :: (l ++ [s])) = true then dropL 0 age now (l ++ [s]) + 1 else 0 := rfl
    have e2 : dropL 0 age now (x :: l) = if goesB 0 age now x (x :: l) = true then dropL 0 age now l + 1 else 0 := rfl
    rw [List.cons_append, e1, e2, goes_nokeep, goes_nokeep, ih, List.length_cons]
    by_cases h1 : (x.shut && oldB age now x.time) = true
    · rw [if_pos h1, if_pos h1]
      by_cases h2 : dropL 0 age now l = l.length
      · rw [h2, if_pos rfl, if_pos rfl]
        split <;> rfl
      · rw [if_neg h2, if_neg (by omega)]
    · rw [if_neg h1, if_neg h1, if_neg (by omega)]
/-- A segment as RetainAges makes it. -/
def agS (i : Nat) (t : Int) : LSeg := ⟨i, (i : Int) + 1, t, 0, [], true, false, false, 0, 0⟩
def zeroS : LSeg := ⟨0, 0, 0, 0, [], false, false, false, 0, 0⟩
theorem agS_wf {i : Nat} {t : Int} (hi : i ≤ 1000) (ht : 0 ≤ t ∧ t ≤ 1023) : (agS i t).wf := by
  unfold agS LSeg.wf
  dsimp only
  omega
theorem zeroS_wf : zeroS.wf := by unfold zeroS LSeg.wf; decide
theorem dropL_zero {age now : Int} (l : List LSeg) : dropL 0 age now (l ++ [zeroS]) = dropL 0 age now l := by
  have h1 : (zeroS.shut && oldB age now zeroS.time) = false := rfl
  rw [dropL_snoc, h1]
  split
  · next h => exact h.symm
  · rfl
theorem dropL_front {age now : Int} (l : List LSeg) (i : Nat) (t : Int) (h0 : 0 < age) (h : dropL 0 age now l = l.length) (ha : age < now - t) : dropL 0 age now (l ++ [agS i t]) = (l ++ [agS i t]).length := by
  have e : ((agS i t).shut && oldB age now (agS i t).time) = true := by unfold agS oldB; simp [h0, ha]
  rw [dropL_snoc, if_pos h, if_pos e, List.length_append]
  rfl
theorem dropL_stop {age now : Int} (l : List LSeg) (i : Nat) (t : Int) (h : dropL 0 age now l = l.length) (ha : ¬ age < now - t) : dropL 0 age now (l ++ [agS i t]) = l.length := by
  have e : ((agS i t).shut && oldB age now (agS i t).time) = false := by unfold agS oldB; simp [ha]
  rw [dropL_snoc, if_pos h, if_neg (by rw [e]; simp)]
theorem dropL_past {age now : Int} (l : List LSeg) (s : LSeg) (h : dropL 0 age now l ≠ l.length) : dropL 0 age now (l ++ [s]) = dropL 0 age now l := by
  rw [dropL_snoc, if_neg h]
open Go.RowKit
theorem seg_info : (Try.prog.info? 31).map (fun i => (i.zero, i.size, decide (i.bytes ≤ 1024))) = some (some (.agg #[.int .i64 0, .int .i64 0, .int .i64 0, .int .i64 0, .slice none 0 0, .bool false, .bool false, .bool false, .int .i64 0, .int .u32 0]), segRep.n, true) := by kernel_rfl
/-- No blocks at all. -/
def noSB : Nat → Prop := fun _ => False
theorem seg_bare {W : World} {S : Nat → Prop} {s : LSeg} (h : s.recs = []) : segRep.holds W S s (segCells (.slice none 0 0) s) := ⟨none, 0, by rw [h]; rfl, by rw [h]; exact RecsIn.nil⟩
/-- What a call reads of a list of the call's own. -/
theorem own_segs {t : TypeId} {w : World} {base : Nat} {v : Value} {ss : List LSeg} (h : OwnS segRep t w noSB base v ss) : ∃ A c, v = .slice A ss.length c ∧ RowsLie segRep w (fun b => v.ownBlock = some b) A ss c ∧ ∀ b, v.ownBlock = some b → b < w.heap.size := by
  obtain ⟨A, c, e, h1, _⟩ := h.parts
  exact ⟨A, c, e, h1.mono fun b hb => hb.elim (fun x => x.elim) id, fun b hb => (h.lt b hb).2⟩
end Go.Proofs.Ytoienjlpncphgaa
