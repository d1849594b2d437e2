/- The twelve plain commands of chapter 10's last statement, and what one field more makes of each. No program is spoken of here. -/
import Derived.Test.YtiglignfjegilaaDoorCmdWords
import Derived.Laws.Rows
namespace Go.Proofs.YtiglignfjegilaaDoor
open Go.RowKit

def aRec : Rec := ⟨0, 0, ⟨#[97]⟩, ⟨#[]⟩, false⟩
theorem aRec_right : aRec.right := by decide
def kindC (k : Int) : Cmd := ⟨k, 0, 0, [], ⟨#[]⟩, 0, 0, 0, 0, 0, 0, 0, 0⟩
def plainC : Nat → Cmd
  | 1 => { kindC 1 with recs := [aRec] }
  | 2 => { kindC 2 with max := 1 }
  | 3 => { kindC 3 with group := ⟨#[103]⟩ }
  | 4 => { kindC 4 with group := ⟨#[103]⟩ }
  | 6 => { kindC 6 with seg := 1 }
  | k => kindC k
def turnC (k : Nat) : Nat → Cmd
  | 0 => { plainC k with pid := 1 }
  | 1 => if k = 1 then { plainC k with seq := 1, pid := 1 } else { plainC k with seq := 1 }
  | 2 => { plainC k with recs := [aRec] }
  | 3 => { plainC k with group := ⟨#[104]⟩ }
  | 4 => { plainC k with off := 1 }
  | 5 => { plainC k with max := 1 }
  | 6 => { plainC k with now := 1 }
  | 7 => { plainC k with sum := 1 }
  | _ => { plainC k with seg := 2 }
/-- Which fields each kind names. -/
def bitsC : Nat → List Int
  | 1 => [49, 49, 49, 48, 48, 48, 48, 48, 48]
  | 2 => [48, 48, 48, 48, 49, 49, 48, 48, 48]
  | 3 => [48, 48, 48, 49, 49, 48, 48, 48, 48]
  | 4 => [48, 48, 48, 49, 48, 48, 48, 48, 48]
  | 5 => [48, 48, 48, 48, 48, 48, 49, 48, 48]
  | 6 => [48, 48, 48, 48, 48, 48, 48, 48, 49]
  | 8 => [48, 48, 48, 48, 49, 48, 49, 48, 48]
  | 9 => [48, 48, 48, 48, 48, 48, 49, 48, 48]
  | 11 => [48, 49, 48, 48, 49, 49, 48, 49, 48]
  | _ => [48, 48, 48, 48, 48, 48, 48, 48, 48]
set_option maxRecDepth 100000 in
theorem plainC_right : ∀ k, k < 12 → (plainC k).right := by decide +kernel
set_option maxRecDepth 100000 in
theorem turnC_right : ∀ k, k < 12 → ∀ f, f < 9 → decide (turnC k f).right = ((bitsC k).getD f 0 == 49) := by decide +kernel
/-- All numbers are small. -/
def Cmd.smallB (c : Cmd) : Bool := [c.kind, c.pid, c.seq, c.off, c.max, c.now, c.sum, c.seg, c.keep, c.age, c.grace].all (fun n => decide (0 ≤ n) && decide (n ≤ 100)) && decide (c.group.size ≤ 10) && c.recs.all (fun r => decide r.right)
theorem Cmd.small_wf {c : Cmd} (h : c.smallB = true) : c.wf := by
  unfold Cmd.smallB at h
  simp only [List.all_cons, List.all_nil, Bool.and_true, Bool.and_eq_true, decide_eq_true_eq, List.all_eq_true] at h
  obtain ⟨⟨⟨a0, a1, a2, a3, a4, a5, a6, a7, a8, a9, a10⟩, hg⟩, hr⟩ := h
  exact ⟨by omega, by omega, by omega, fun r h => (hr r h).wf, by omega, by omega, by omega, by omega, by omega, by omega, by omega, by omega, by omega⟩
set_option maxRecDepth 100000 in
theorem plainC_small : ∀ k, k < 12 → (plainC k).smallB = true := by decide +kernel
set_option maxRecDepth 100000 in
theorem turnC_small : ∀ k, k < 12 → ∀ f, f < 9 → (turnC k f).smallB = true := by decide +kernel
theorem alloc_spot {w : World} {o o' : Obj} {n : Nat} (h : n = w.heap.size) (e : o = o') : (w.alloc o).heap[n]? = some o' := by subst h e; exact heap_alloc_new w o
/-- The records' slice of the k-th one, v being that of the one record. -/
def recsV (v : Value) (k : Nat) : Value := if k = 1 then v else .slice none 0 0
/-- The twelve ones' cells, one behind the other. -/
def baseL (v : Value) : List Value := cmdCells (recsV v 0) (plainC 0) ++ (cmdCells (recsV v 1) (plainC 1) ++ (cmdCells (recsV v 2) (plainC 2) ++ (cmdCells (recsV v 3) (plainC 3) ++ (cmdCells (recsV v 4) (plainC 4) ++ (cmdCells (recsV v 5) (plainC 5) ++ (cmdCells (recsV v 6) (plainC 6) ++ (cmdCells (recsV v 7) (plainC 7) ++ (cmdCells (recsV v 8) (plainC 8) ++ (cmdCells (recsV v 9) (plainC 9) ++ (cmdCells (recsV v 10) (plainC 10) ++ cmdCells (recsV v 11) (plainC 11)))))))))))
set_option maxRecDepth 100000 in
theorem base_at (v : Value) : ∀ k, k < 12 → ∀ j, j < 13 → (baseL v)[k * 13 + j]? = (cmdCells (recsV v k) (plainC k))[j]? := by
  intro k hk j hj
  have h : k = 0 ∨ k = 1 ∨ k = 2 ∨ k = 3 ∨ k = 4 ∨ k = 5 ∨ k = 6 ∨ k = 7 ∨ k = 8 ∨ k = 9 ∨ k = 10 ∨ k = 11 := by omega
  have h2 : j = 0 ∨ j = 1 ∨ j = 2 ∨ j = 3 ∨ j = 4 ∨ j = 5 ∨ j = 6 ∨ j = 7 ∨ j = 8 ∨ j = 9 ∨ j = 10 ∨ j = 11 ∨ j = 12 := by omega
  rcases h with rfl | rfl | rfl | rfl | rfl | rfl | rfl | rfl | rfl | rfl | rfl | rfl
  all_goals (rcases h2 with rfl | rfl | rfl | rfl | rfl | rfl | rfl | rfl | rfl | rfl | rfl | rfl | rfl <;> rfl)
/-- The texts that tell which fields each kind names. -/
def nameC (k : Nat) : ByteArray := ⟨((bitsC k).map fun n => n.toNat.toUInt8).toArray⟩
def namesV : List Value := [.string (nameC 0), .string (nameC 1), .string (nameC 2), .string (nameC 3), .string (nameC 4), .string (nameC 5), .string (nameC 6), .string (nameC 7), .string (nameC 8), .string (nameC 9), .string (nameC 10), .string (nameC 11)]
theorem names_at : ∀ k, k < 12 → namesV[k]? = some (.string (nameC k)) := by
  intro k hk
  have h : k = 0 ∨ k = 1 ∨ k = 2 ∨ k = 3 ∨ k = 4 ∨ k = 5 ∨ k = 6 ∨ k = 7 ∨ k = 8 ∨ k = 9 ∨ k = 10 ∨ k = 11 := by omega
  rcases h with rfl | rfl | rfl | rfl | rfl | rfl | rfl | rfl | rfl | rfl | rfl | rfl <;> rfl
theorem name_get : ∀ k, k < 12 → ∀ f, f < 9 → ((nameC k).get! f).toNat = ((bitsC k).getD f 0).toNat := by decide +kernel
theorem name_len : ∀ k, k < 12 → (nameC k).size = 9 := by decide +kernel
theorem bits_pos : ∀ k, k < 12 → ∀ f, f < 9 → 0 ≤ (bitsC k).getD f 0 := by decide +kernel
theorem name_bit (k : Nat) (hk : k < 12) (f : Nat) (hf : f < 9) (h : f < (nameC k).size) : ((((nameC k)[f]).toNat : Int) == 49) = ((bitsC k)[f]?.getD 0 == 49) := by
  have e : (nameC k)[f] = (nameC k).get! f := (getElem!_pos (nameC k).data f h).symm
  rw [e, name_get k hk f hf, ← List.getD_eq_getElem?_getD, Int.toNat_of_nonneg (bits_pos k hk f hf)]
abbrev aRecO : Obj := .cells #[.int .i64 0, .int .i64 0, .string ⟨#[97]⟩, .string ⟨#[]⟩, .bool false] 39 (0, 0)
theorem aRec_lie {W : World} {g : Nat} (h : W.heap[g]? = some aRecO) : RecsLie W (some ⟨g, 0, none⟩) [aRec] 1 := by
  refine ⟨fun _ => ⟨g, 0, rfl, (Array.getElem?_eq_some_iff.1 h).1, fun i hi => ?_⟩, by simp, by simp [maxLen], fun r hr => by rw [List.mem_singleton.1 hr]; exact aRec_right.wf⟩
  obtain rfl : i = 0 := by simpa using hi
  refine ⟨?_, ?_, ?_, ?_, ?_⟩ <;> (unfold World.cell?; rw [h]; rfl)
theorem plainC_recs {k : Nat} (h : ¬ k = 1) : (plainC k).recs = [] := by
  unfold plainC
  split <;> first | rfl | (exact absurd rfl h)
theorem recsV_lie (g k : Nat) : ∃ A cap, recsV (.slice (some ⟨g, 0, none⟩) 1 1) k = .slice A (plainC k).recs.length cap ∧ ∀ W : World, W.heap[g]? = some aRecO → RecsLie W A (plainC k).recs cap := by
  by_cases h : k = 1
  · subst h
    exact ⟨some ⟨g, 0, none⟩, 1, rfl, fun W hW => aRec_lie hW⟩
  · refine ⟨none, 0, ?_, fun W _ => ?_⟩
    · unfold recsV
      rw [if_neg h, plainC_recs h]
      rfl
    · rw [plainC_recs h]
      exact RecsLie.none W
theorem turn_0 {W : World} {g k : Nat} {v : Value} (h : W.heap[g]? = some (cmdO v (plainC k))) : (W.setCell ⟨g, 1, none⟩ (.int .i64 1)).heap[g]? = some (cmdO v (turnC k 0)) := (heap_setCell_same _ _ _ _ _ _ h).trans rfl
theorem turn_3 {W : World} {g k : Nat} {v : Value} (h : W.heap[g]? = some (cmdO v (plainC k))) : (W.setCell ⟨g, 4, none⟩ (.string ⟨#[104]⟩)).heap[g]? = some (cmdO v (turnC k 3)) := (heap_setCell_same _ _ _ _ _ _ h).trans rfl
theorem turn_4 {W : World} {g k : Nat} {v : Value} (h : W.heap[g]? = some (cmdO v (plainC k))) : (W.setCell ⟨g, 5, none⟩ (.int .i64 1)).heap[g]? = some (cmdO v (turnC k 4)) := (heap_setCell_same _ _ _ _ _ _ h).trans rfl
theorem turn_5 {W : World} {g k : Nat} {v : Value} (h : W.heap[g]? = some (cmdO v (plainC k))) : (W.setCell ⟨g, 6, none⟩ (.int .i64 1)).heap[g]? = some (cmdO v (turnC k 5)) := (heap_setCell_same _ _ _ _ _ _ h).trans rfl
theorem turn_6 {W : World} {g k : Nat} {v : Value} (h : W.heap[g]? = some (cmdO v (plainC k))) : (W.setCell ⟨g, 7, none⟩ (.int .i64 1)).heap[g]? = some (cmdO v (turnC k 6)) := (heap_setCell_same _ _ _ _ _ _ h).trans rfl
theorem turn_7 {W : World} {g k : Nat} {v : Value} (h : W.heap[g]? = some (cmdO v (plainC k))) : (W.setCell ⟨g, 8, none⟩ (.int .u32 1)).heap[g]? = some (cmdO v (turnC k 7)) := (heap_setCell_same _ _ _ _ _ _ h).trans rfl
theorem turn_8 {W : World} {g k : Nat} {v : Value} (h : W.heap[g]? = some (cmdO v (plainC k))) : (W.setCell ⟨g, 9, none⟩ (.int .i64 2)).heap[g]? = some (cmdO v (turnC k 8)) := (heap_setCell_same _ _ _ _ _ _ h).trans rfl
theorem turn_2 {W : World} {g k : Nat} {v : Value} (x : Value) (h : W.heap[g]? = some (cmdO v (plainC k))) : (W.setCell ⟨g, 3, none⟩ x).heap[g]? = some (cmdO x (turnC k 2)) := (heap_setCell_same _ _ _ _ _ _ h).trans rfl
theorem turn_1 {W : World} {g k : Nat} {v : Value} (hk : ¬ k = 1) (h : W.heap[g]? = some (cmdO v (plainC k))) : (W.setCell ⟨g, 2, none⟩ (.int .i64 1)).heap[g]? = some (cmdO v (turnC k 1)) := by
  have e : turnC k 1 = { plainC k with seq := 1 } := if_neg hk
  rw [e]
  exact (heap_setCell_same _ _ _ _ _ _ h).trans rfl
theorem turn_1b {W : World} {g : Nat} {v : Value} (h : W.heap[g]? = some (cmdO v (plainC 1))) : ((W.setCell ⟨g, 2, none⟩ (.int .i64 1)).setCell ⟨g, 1, none⟩ (.int .i64 1)).heap[g]? = some (cmdO v (turnC 1 1)) :=
  (heap_setCell_same _ _ _ _ _ _ (heap_setCell_same _ _ _ _ _ _ h)).trans rfl
theorem turnC_recs (k f : Nat) (h : f ≠ 2) : (turnC k f).recs = (plainC k).recs := by
  unfold turnC
  split
  all_goals first | rfl | (exact absurd rfl h) | (split <;> rfl)
end Go.Proofs.YtiglignfjegilaaDoor
