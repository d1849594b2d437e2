/- A contract of the program's record.Get. -/
import Derived.Test.YtaoflfdpagpgaaaDoorReaderNum
import Derived.Test.YtaoflfdpagpgaaaDoorVRight
import Derived.Test.YtaoflfdpagpgaaaDoorVFold
namespace Go.Proofs.YtaoflfdpagpgaaaDoor
open Go.RowKit

def recO (r : Rec) : Obj := .cells #[.int .i64 r.off, .int .i64 r.time, .string r.key, .string r.val, .bool r.dead] 38 (0, 0)
/-- The world in the middle of record.Get: an empty result, the reader, what is read so far. -/
structure Stage (w W : World) (xs : List Int) (e : Int) (r : Rec) : Prop where
  res : W.heap[w.heap.size]? = some (recO zeroR)
  rd : Rd W (w.heap.size + 1) xs e
  rc : W.heap[w.heap.size + 1 + 1]? = some (recO r)
  bel : Below w.heap.size w W
theorem Stage.start (w : World) (A : Option Addr) (xs : List Int) (c : Nat) (hl : Lies .u8 w w.heap.size A xs) (hc : xs.length ≤ c) (hcm : c ≤ maxLen) :
    Stage w (((w.alloc (recO zeroR)).alloc (.cells #[.slice A xs.length c, .int .i64 0] 73)).alloc (recO zeroR)) xs 0 zeroR := by
  have hb : Below w.heap.size w (((w.alloc (recO zeroR)).alloc (.cells #[.slice A xs.length c, .int .i64 0] 73)).alloc (recO zeroR)) :=
    (((Below.refl _ _).alloc (Nat.le_refl _) _).alloc (by simp) _).alloc (by simp; omega) _
  refine ⟨?_, ⟨A, c, ?_, hc, hcm, (hl.below hb).more (by omega)⟩, ?_, hb⟩
  · rw [Below.heap_alloc _ _ _ (by simp; omega), Below.heap_alloc _ _ _ (by simp), heap_alloc_new]
  · rw [Below.heap_alloc _ _ _ (by simp)]
    exact (congrArg (fun k => ((w.alloc (recO zeroR)).alloc (.cells #[.slice A xs.length c, .int .i64 0] 73)).heap[k]?) (by simp)).trans (heap_alloc_new (w.alloc (recO zeroR)) _)
  · exact (congrArg (fun k => (((w.alloc (recO zeroR)).alloc (.cells #[.slice A xs.length c, .int .i64 0] 73)).alloc (recO zeroR)).heap[k]?) (by simp)).trans (heap_alloc_new ((w.alloc (recO zeroR)).alloc (.cells #[.slice A xs.length c, .int .i64 0] 73)) _)
theorem Stage.call {w W W' : World} {xs xs' : List Int} {e e' : Int} {r : Rec} (h : Stage w W xs e r) (hg : W.grownBy W' (some (w.heap.size + 1))) (hr : Rd W' (w.heap.size + 1) xs' e') : Stage w W' xs' e' r :=
  ⟨(hg.block _ (heap_lt h.res) (by simp)).trans h.res, hr, (hg.block _ (heap_lt h.rc) (by simp)).trans h.rc, h.bel.grown hg (by have := h.bel.size; omega) (by simp)⟩
theorem Stage.set {w W : World} {xs : List Int} {e : Int} {r r' : Rec} (h : Stage w W xs e r) (j : Nat) (v : Value)
    (hv : (#[.int .i64 r.off, .int .i64 r.time, .string r.key, .string r.val, .bool r.dead] : Array Value).setIfInBounds j v = #[.int .i64 r'.off, .int .i64 r'.time, .string r'.key, .string r'.val, .bool r'.dead]) :
    Stage w (W.setCell ⟨w.heap.size + 1 + 1, j, none⟩ v) xs e r' := by
  refine ⟨(heap_setCell_other W _ _ v (by simp; omega)).trans h.res, ?_, ?_, h.bel.setCell (by simp; omega) v⟩
  · obtain ⟨A, c, h1, h2, h3, h4⟩ := h.rd
    refine ⟨A, c, (heap_setCell_other W _ _ v (by simp)).trans h1, h2, h3, h4.keep fun b o hb => World.cell?_of_block (a := ⟨b, o, none⟩) (heap_setCell_other W _ _ v (by simp; omega))⟩
  · unfold recO
    rw [heap_setCell_same W _ j _ _ v h.rc, hv]
theorem Stage.below {w W W' : World} {xs : List Int} {e : Int} {r : Rec} (h : Stage w W xs e r) (hb : Below W.heap.size W W') : Stage w W' xs e r := by
  refine ⟨(hb.block _ (heap_lt h.res)).trans h.res, ?_, (hb.block _ (heap_lt h.rc)).trans h.rc, h.bel.trans (hb.mono h.bel.size)⟩
  have hlt := h.rd.lt
  obtain ⟨A, c, h1, h2, h3, h4⟩ := h.rd
  exact ⟨A, c, (hb.block _ hlt).trans h1, h2, h3, h4.below (hb.mono (by omega))⟩
theorem obj_cells {w : World} {g : Nat} {r : Rec} (h : w.heap[g]? = some (recO r)) :
    (w.cell? ⟨g, 0, none⟩ = some (.int .i64 r.off) ∧ w.cell? ⟨g, 1, none⟩ = some (.int .i64 r.time) ∧ w.cell? ⟨g, 2, none⟩ = some (.string r.key) ∧ w.cell? ⟨g, 3, none⟩ = some (.string r.val) ∧ w.cell? ⟨g, 4, none⟩ = some (.bool r.dead)) ∧ ∀ j, w.frozen? ⟨g, j, none⟩ = false :=
  ⟨⟨by simp [World.cell?, h, recO], by simp [World.cell?, h, recO], by simp [World.cell?, h, recO], by simp [World.cell?, h, recO], by simp [World.cell?, h, recO]⟩, fun j => by simp [World.frozen?, h, recO]⟩

theorem five_cells {w : World} {g : Nat} {r : Rec} (h : w.heap[g]? = some (recO r)) (v0 v1 v2 v3 v4 : Value) :
    (w.setCell ⟨g, 0, none⟩ v0).cell? ⟨g, 0, none⟩ = some v0 ∧ ((w.setCell ⟨g, 0, none⟩ v0).setCell ⟨g, 1, none⟩ v1).cell? ⟨g, 1, none⟩ = some v1 ∧
    (((w.setCell ⟨g, 0, none⟩ v0).setCell ⟨g, 1, none⟩ v1).setCell ⟨g, 2, none⟩ v2).cell? ⟨g, 2, none⟩ = some v2 ∧
    ((((w.setCell ⟨g, 0, none⟩ v0).setCell ⟨g, 1, none⟩ v1).setCell ⟨g, 2, none⟩ v2).setCell ⟨g, 3, none⟩ v3).cell? ⟨g, 3, none⟩ = some v3 ∧
    (((((w.setCell ⟨g, 0, none⟩ v0).setCell ⟨g, 1, none⟩ v1).setCell ⟨g, 2, none⟩ v2).setCell ⟨g, 3, none⟩ v3).setCell ⟨g, 4, none⟩ v4).cell? ⟨g, 4, none⟩ = some v4 := by
  have h0 := heap_setCell_same w g 0 _ _ v0 h
  have h1 := heap_setCell_same _ g 1 _ _ v1 h0
  have h2 := heap_setCell_same _ g 2 _ _ v2 h1
  have h3 := heap_setCell_same _ g 3 _ _ v3 h2
  have h4 := heap_setCell_same _ g 4 _ _ v4 h3
  exact ⟨by simp [World.cell?, h0], by simp [World.cell?, h1], by simp [World.cell?, h2], by simp [World.cell?, h3], by simp [World.cell?, h4]⟩

set_option maxRecDepth 100000 in
set_option maxHeartbeats 8000000 in
theorem vrecget_any (A : Option Addr) (xs : List Int) (c : Nat) (w : World) (hl : Lies .u8 w w.heap.size A xs) (hby : IsBytes xs) (hc : xs.length ≤ c) (hcm : c ≤ maxLen) :
    Calls Tryd.prog 38 #[.slice A xs.length c] w (TellsRec (getRec xs) w) := by
  rw [← getS_eq xs hby]
  have HS := Lib.hid (Stage.start w A xs c hl hc hcm)
  have HXM := Lib.hid (show xs.length ≤ 9223372036854775807 by unfold maxLen at hcm; omega)
  obtain ⟨p, hp⟩ : ∃ p, getS xs = p := ⟨_, rfl⟩
  rw [hp]
  have hrg1 := numS_range xs 0 1125899906842624 hby (by omega)
  have hby1 := numS_bytes xs 0 1125899906842624 hby
  have HN1 := Lib.hid (fun W h => vnumber_any (w.heap.size + 1) xs 0 1125899906842624 W h hby)
  unfold getS at hp
  obtain ⟨x1, xs1, e1, hn1⟩ : ∃ a b c, numS xs 0 1125899906842624 = (a, b, c) := ⟨_, _, _, rfl⟩
  rw [hn1] at hp HN1 hrg1 hby1
  simp only at hp HN1 hrg1 hby1
  have hrg2 := numS_range xs1 e1 2199023255552 hby1 (by omega)
  have hby2 := numS_bytes xs1 e1 2199023255552 hby1
  have HN2 := Lib.hid (fun W h => vnumber_any (w.heap.size + 1) xs1 e1 2199023255552 W h hby1)
  unfold gsT at hp
  obtain ⟨x2, xs2, e2, hn2⟩ : ∃ a b c, numS xs1 e1 2199023255552 = (a, b, c) := ⟨_, _, _, rfl⟩
  simp only at hp
  rw [hn2] at hp HN2 hrg2 hby2
  simp only at hp HN2 hrg2 hby2
  have hur := unfold_range x2 (by omega) (by omega)
  have HU := Lib.hid (fun W => unfold_any x2 W (by omega) (by omega))
  obtain ⟨tv, htv⟩ : ∃ tv, unfoldI x2 = tv := ⟨_, rfl⟩
  rw [htv] at hp hur HU
  have HF := Lib.hid (fun W => fold_any 1099511627776 W (by omega) (by omega))
  rw [show foldI 1099511627776 = 2199023255552 from rfl] at HF
  have hby3 := flagS_bytes xs2 e2 hby2
  have HN3 := Lib.hid (fun W h => vflag_any (w.heap.size + 1) xs2 e2 W h)
  unfold gsF at hp
  obtain ⟨dd, xs3, e3, hn3⟩ : ∃ a b c, flagS xs2 e2 = (a, b, c) := ⟨_, _, _, rfl⟩
  simp only at hp
  rw [hn3] at hp HN3 hby3
  simp only at hp HN3 hby3
  have hby4 := textS_bytes xs3 e3 200 hby3
  have HN4 := Lib.hid (fun W h => vtext_any (w.heap.size + 1) xs3 e3 200 W h hby3 (by omega) (by omega))
  unfold gsK at hp
  obtain ⟨key, xs4, e4, hn4⟩ : ∃ a b c, textS xs3 e3 200 = (a, b, c) := ⟨_, _, _, rfl⟩
  simp only at hp
  rw [hn4] at hp HN4 hby4
  simp only at hp HN4 hby4
  have HN5 := Lib.hid (fun W h => vtext_any (w.heap.size + 1) xs4 e4 2000 W h hby4 (by omega) (by omega))
  unfold gsV at hp
  obtain ⟨val, xs5, e5, hn5⟩ : ∃ a b c, textS xs4 e4 2000 = (a, b, c) := ⟨_, _, _, rfl⟩
  simp only at hp
  rw [hn5] at hp HN5
  simp only at hp HN5
  have HP := Lib.hid hp
  have hrr := vright_any ⟨x1, tv, key, val, dd⟩
  unfold recV at hrr
  simp only at hrr
  have HRR := Lib.hid hrr
  clear hrr hp hl hcm hn1 hn2 hn3 hn4 hn5 hby hby1 hby2 hby3 hby4 htv
  go_enter Tryd.func38, Tryd.ntmps38
  go_wp2_with fail
  refine (HN1.out _ HS.out.rd).mono ?_
  rintro en w1 ⟨rfl, hr1, hg1⟩
  have HS1 := Lib.hid (HS.out.call hg1 hr1)
  clear HS HN1 hg1 hr1
  obtain ⟨⟨a0, a1, a2, a3, a4⟩, af⟩ := obj_cells HS1.out.rc
  go_wp2_with fail
  refine (HF.out _).mono ?_
  rintro en W ⟨rfl, rfl⟩
  go_wp2_with fail
  have HT1 := Lib.hid (HS1.out.set (r' := ⟨x1, 0, ⟨#[]⟩, ⟨#[]⟩, false⟩) 0 (.int .i64 x1) (by simp [zeroR]))
  clear HS1 a0 a1 a2 a3 a4 af
  refine (HN2.out _ HT1.out.rd).mono ?_
  rintro en w2 ⟨rfl, hr2, hg2⟩
  have HS2 := Lib.hid (HT1.out.call hg2 hr2)
  clear HT1 HN2 hg2 hr2
  obtain ⟨⟨a0, a1, a2, a3, a4⟩, af⟩ := obj_cells HS2.out.rc
  go_wp2_with fail
  refine (HU.out _).mono ?_
  rintro en W ⟨rfl, rfl⟩
  go_wp2_with fail
  have HT2 := Lib.hid (HS2.out.set (r' := ⟨x1, tv, ⟨#[]⟩, ⟨#[]⟩, false⟩) 1 (.int .i64 tv) (by simp))
  clear HS2 a0 a1 a2 a3 a4 af
  refine (HN3.out _ HT2.out.rd).mono ?_
  rintro en w3 ⟨rfl, hr3, hg3⟩
  have HS3 := Lib.hid (HT2.out.call hg3 hr3)
  clear HT2 HN3 hg3 hr3
  obtain ⟨⟨a0, a1, a2, a3, a4⟩, af⟩ := obj_cells HS3.out.rc
  go_wp2_with fail
  have HT3 := Lib.hid (HS3.out.set (r' := ⟨x1, tv, ⟨#[]⟩, ⟨#[]⟩, dd⟩) 4 (.bool dd) (by simp))
  clear HS3 a0 a1 a2 a3 a4 af
  refine (HN4.out _ HT3.out.rd).mono ?_
  rintro en w4 ⟨rfl, hr4, hg4⟩
  have HS4 := Lib.hid (HT3.out.call hg4 hr4)
  clear HT3 HN4 hg4 hr4
  obtain ⟨⟨a0, a1, a2, a3, a4⟩, af⟩ := obj_cells HS4.out.rc
  go_wp2_with fail
  have HT4 := Lib.hid (HS4.out.set (r' := ⟨x1, tv, key, ⟨#[]⟩, dd⟩) 2 (.string key) (by simp))
  clear HS4 a0 a1 a2 a3 a4 af
  refine (HN5.out _ HT4.out.rd).mono ?_
  rintro en w5 ⟨rfl, hr5, hg5⟩
  have HS5 := Lib.hid (HT4.out.call hg5 hr5)
  clear HT4 HN5 hg5 hr5
  obtain ⟨⟨a0, a1, a2, a3, a4⟩, af⟩ := obj_cells HS5.out.rc
  have HT5 := Lib.hid (HS5.out.set (r' := ⟨x1, tv, key, val, dd⟩) 3 (.string val) (by simp))
  obtain ⟨A5, c5, hd5, hc5, hm5, hl5⟩ := HT5.out.rd
  obtain ⟨d0, d1, df0, df1⟩ := rd_cells hd5
  obtain ⟨⟨b0, b1, b2, b3, b4⟩, bf⟩ := obj_cells HT5.out.rc
  by_cases he : e5 = 0
  · subst he
    go_wp2_with fail
    refine (HRR.out _).mono ?_
    rintro en w6 ⟨rfl, hb6⟩
    have HT6 := Lib.hid (HT5.out.below hb6)
    clear HT5 HS5 HRR HF HU a0 a1 a2 a3 a4 af b0 b1 b2 b3 b4 bf d0 d1 df0 df1 hd5 hc5 hm5 hl5 hb6 A5 c5
    obtain ⟨A5, c5, hd5, hc5, hm5, hl5⟩ := HT6.out.rd
    obtain ⟨d0, d1, df0, df1⟩ := rd_cells hd5
    obtain ⟨⟨b0, b1, b2, b3, b4⟩, bf⟩ := obj_cells HT6.out.rc
    obtain ⟨⟨r0, r1, r2, r3, r4⟩, rf⟩ := obj_cells HT6.out.res
    have r0f := rf 0
    have r1f := rf 1
    have r2f := rf 2
    have r3f := rf 3
    have r4f := rf 4
    clear rf bf hd5 hl5
    have hp := HP.out
    simp only [ne_eq, not_true_eq_false, if_false] at hp
    by_cases hR : (⟨x1, tv, key, val, dd⟩ : Rec).right
    · rw [if_pos hR] at hp
      have HFN := Lib.hid hp
      rw [decide_eq_true hR]
      clear hR hp HP
      go_wp2_with fail
      obtain ⟨k0, k1, k2, k3, k4⟩ := five_cells HT6.out.res (.int .i64 x1) (.int .i64 tv) (.string key) (.string val) (.bool dd)
      have HK := Lib.hid (And.intro k0 (And.intro k1 (And.intro k2 (And.intro k3 k4))))
      clear k0 k1 k2 k3 k4
      go_region
      go_wp2
      obtain ⟨k0, k1, k2, k3, k4⟩ := HK.out
      (try simp only [Exit.inBlock, Exit.then])
      refine bodyPost_ret (by simp [results, Tryd.results38, go_sem, k0, k1, k2, k3, k4]; try rfl) rfl ?_
      have hwr : wrap64 ((xs.length : Int) - (xs5.length : Int)) = (xs.length : Int) - (xs5.length : Int) := by
        have h1 := HXM.out
        unfold maxLen at hm5
        simp only [wrap64]
        omega
      rw [hwr]
      exact TellsRec.mk (r := ⟨x1, tv, key, val, dd⟩) HFN.out.symm ((((((HT6.out.bel.setCell (Nat.le_refl _) _).setCell (Nat.le_refl _) _).setCell (Nat.le_refl _) _).setCell (Nat.le_refl _) _).setCell (Nat.le_refl _) _).drew)
    · rw [if_neg hR] at hp
      have HFN := Lib.hid hp
      rw [decide_eq_false hR]
      clear hR hp HP
      go_wp2
      obtain ⟨k0, k1, k2, k3, k4⟩ := five_cells HT6.out.res (.int .i64 0) (.int .i64 0) (.string ⟨#[]⟩) (.string ⟨#[]⟩) (.bool false)
      (try simp only [Exit.inBlock, Exit.then])
      refine bodyPost_ret (by simp [results, Tryd.results38, go_sem, k0, k1, k2, k3, k4]; try rfl) rfl ?_
      exact TellsRec.none HFN.out.symm (((((HT6.out.bel.setCell (Nat.le_refl _) _).setCell (Nat.le_refl _) _).setCell (Nat.le_refl _) _).setCell (Nat.le_refl _) _).setCell (Nat.le_refl _) _)
  · have HFN := Lib.hid (show p = (zeroR, 0, e5) by rw [← HP.out, if_pos he])
    have heb : (e5 != 0) = true := by simpa using he
    obtain ⟨⟨r0, r1, r2, r3, r4⟩, rf⟩ := obj_cells HT5.out.res
    have r0f := rf 0
    have r1f := rf 1
    have r2f := rf 2
    have r3f := rf 3
    have r4f := rf 4
    go_wp2_with fail
    clear HP HRR HF HU HS5 a0 a1 a2 a3 a4 af b0 b1 b2 b3 b4 bf rf
    generalize w5.setCell ⟨w.heap.size + 1 + 1, 3, none⟩ (.string val) = W5 at *
    go_region
    go_wp2
    obtain ⟨k0, k1, k2, k3, k4⟩ := five_cells HT5.out.res (.int .i64 0) (.int .i64 0) (.string ⟨#[]⟩) (.string ⟨#[]⟩) (.bool false)
    (try simp only [Exit.inBlock, Exit.then])
    refine bodyPost_ret (by simp [results, Tryd.results38, go_sem, k0, k1, k2, k3, k4]; try rfl) rfl ?_
    exact TellsRec.none HFN.out ((((((HT5.out.bel.setCell (Nat.le_refl _) _).setCell (Nat.le_refl _) _).setCell (Nat.le_refl _) _).setCell (Nat.le_refl _) _).setCell (Nat.le_refl _) _).drew)
end Go.Proofs.YtaoflfdpagpgaaaDoor
