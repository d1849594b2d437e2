/- A contract of the program's own first: the record of the frame that bytes begin with. -/
import Derived.Test.YtffmfgbjlijpeaaDoorRScan
import Derived.Test.YtffmfgbjlijpeaaDoorRecProg
import Derived.Test.YtffmfgbjlijpeaaDoorVFr
namespace Go.Proofs.YtffmfgbjlijpeaaDoor
open Go.RowKit

/-- The record of the frame that bytes begin with, and how many bytes that frame has. -/
def firstM (bs : List Int) : Option (Rec × Nat) :=
  if (getFr bs).2.2 ≠ 0 then none
  else if (getRec (getFr bs).1).2.2 ≠ 0 then none
  else if (getRec (getFr bs).1).2.1 ≠ ((getFr bs).1.length : Int) then none
  else some ((getRec (getFr bs).1).1, (getFr bs).2.1.toNat)
theorem step_first_none {last : Option Int} {bs : List Int} (h : firstM bs = none) : stepM last bs = none := by
  unfold firstM at h
  unfold stepM
  split at h
  · rename_i h1; rw [if_pos h1]; split <;> rfl
  · split at h
    · rename_i h1 h2; rw [if_neg h1, if_pos h2]; split <;> rfl
    · split at h
      · rename_i h1 h2 h3; rw [if_neg h1, if_neg h2, if_pos h3]; split <;> rfl
      · cases h
theorem step_first_some {last : Option Int} {bs : List Int} {r : Rec} {n : Nat} (h0 : bs ≠ []) (h : firstM bs = some (r, n)) : stepM last bs = if falls last r.off = true then none else some (r, n) := by
  unfold firstM at h
  unfold stepM
  rw [if_neg h0]
  split at h
  · cases h
  · split at h
    · cases h
    · split at h
      · cases h
      · rename_i h1 h2 h3
        injection h with h
        injection h with ha hb
        rw [if_neg h1, if_neg h2, if_neg h3, ha, hb]
theorem first_facts {bs : List Int} {r : Rec} {n : Nat} (hb : IsBytes bs) (h : firstM bs = some (r, n)) : r.right ∧ 5 ≤ n ∧ n ≤ bs.length := by
  obtain ⟨p, m, e, hg⟩ : ∃ p m e, getFr bs = (p, m, e) := ⟨_, _, _, rfl⟩
  unfold firstM at h
  rw [hg] at h
  obtain ⟨q, m2, f, hr⟩ : ∃ q m2 f, getRec p = (q, m2, f) := ⟨_, _, _, rfl⟩
  simp only at h
  rw [hr] at h
  simp only at h
  split at h
  · cases h
  · split at h
    · cases h
    · split at h
      · cases h
      · rename_i h1 h2 h3
        injection h with h
        injection h with ha hn
        obtain rfl : e = 0 := by omega
        obtain rfl : f = 0 := by omega
        obtain ⟨n', rfl, h5, hle, _, hpb⟩ := getFr_nat hb hg
        obtain ⟨hq, _⟩ := getRec_back hpb hr
        rw [← ha]
        have : n' = n := by simpa using hn
        subst this
        exact ⟨hq, h5, hle⟩
theorem first_of {bs p : List Int} {m : Int} (hg : getFr bs = (p, m, 0)) : firstM bs = if (getRec p).2.2 ≠ 0 then none else if (getRec p).2.1 ≠ (p.length : Int) then none else some ((getRec p).1, m.toNat) := by
  unfold firstM
  rw [hg]
  simp
theorem first_not {bs p : List Int} {m e : Int} (hg : getFr bs = (p, m, e)) (he : e ≠ 0) : firstM bs = none := by
  unfold firstM
  rw [hg, if_pos he]
/-- What first answers. -/
def TellsFirst (o : Option (Rec × Nat)) (w : World) (e : Ending) (w' : World) : Prop :=
  (o = none ∧ e = .returned (.tuple #[.agg #[.int .i64 0, .int .i64 0, .string ⟨#[]⟩, .string ⟨#[]⟩, .bool false], .int .i64 0, .bool false]) ∨
    ∃ xo xt xk xv xd n, o = some (⟨xo, xt, xk, xv, xd⟩, n) ∧ e = .returned (.tuple #[.agg #[.int .i64 xo, .int .i64 xt, .string xk, .string xv, .bool xd], .int .i64 (n : Nat), .bool true])) ∧ Below w.heap.size w w'
theorem TellsFirst.none {o : Option (Rec × Nat)} {w w' : World} (h : o = Option.none) (hb : Below w.heap.size w w') : TellsFirst o w (.returned (.tuple #[.agg #[.int .i64 0, .int .i64 0, .string ⟨#[]⟩, .string ⟨#[]⟩, .bool false], .int .i64 0, .bool false])) w' := ⟨.inl ⟨h, rfl⟩, hb⟩
theorem TellsFirst.some {o : Option (Rec × Nat)} {w w' : World} {xo xt : Int} {xk xv : ByteArray} {xd : Bool} {n : Nat} (h : o = Option.some (⟨xo, xt, xk, xv, xd⟩, n)) (hb : Below w.heap.size w w') :
    TellsFirst o w (.returned (.tuple #[.agg #[.int .i64 xo, .int .i64 xt, .string xk, .string xv, .bool xd], .int .i64 (n : Nat), .bool true])) w' := ⟨.inr ⟨_, _, _, _, _, _, h, rfl⟩, hb⟩

set_option maxRecDepth 100000 in
set_option maxHeartbeats 3200000 in
theorem vfirst_any (A : Option Addr) (xs : List Int) (c : Nat) (w : World) (hh : Half w) (hl : Lies .u8 w w.heap.size A xs) (hby : IsBytes xs) (hc : xs.length ≤ c) (hcm : c ≤ maxLen) :
    Calls Tryd.prog 47 #[.slice A xs.length c] w (TellsFirst (firstM xs) w) := by
  have h0 := hh.pos
  have HBW : Hid (Below w.heap.size w (w.alloc (recO zeroR))) := Lib.hid ((Below.refl _ _).alloc (Nat.le_refl _) _)
  have HRES : Hid (∀ W, Below (w.alloc (recO zeroR)).heap.size (w.alloc (recO zeroR)) W → W.heap[w.heap.size]? = some (recO zeroR)) := Lib.hid fun W hb => by
    rw [hb.block _ (by simp), heap_alloc_new]
  have HG := Lib.hid (fget_any A xs c (w.alloc (recO zeroR)) (hh.below HBW.out h0) ((hl.below HBW.out).more HBW.out.size) hby hc hcm)
  obtain ⟨p, m, e, hr⟩ : ∃ p m e, getFr xs = (p, m, e) := ⟨_, _, _, rfl⟩
  obtain ⟨o, ho⟩ : ∃ o, firstM xs = o := ⟨_, rfl⟩
  rw [hr] at HG
  rw [ho]
  have HR := Lib.hid hr
  have HO := Lib.hid ho
  have HBY := Lib.hid hby
  have HLEN := Lib.hid hc
  have HCM := Lib.hid hcm
  clear hr ho hl hby hh hc hcm
  unfold recO zeroR at HBW HRES HG
  dsimp only at HBW HRES HG
  go_enter Tryd.func47, Tryd.ntmps47
  go_wp2_with fail
  refine HG.out.mono ?_
  rintro e' w1 ⟨v1, rfl, ho1, hb1⟩
  have HB1 := Lib.hid (HBW.out.trans (hb1.mono HBW.out.size))
  have HR1 : Hid (∀ W, Below w1.heap.size w1 W → W.heap[w.heap.size]? = some (recO zeroR)) := Lib.hid fun W hb => by
    have h1 := HRES.out w1 hb1
    exact (hb.block _ (heap_lt h1)).trans h1
  have HOW := Lib.hid ho1
  clear HG ho1 hb1 HRES HBW
  dsimp only at HOW ⊢
  by_cases he : e = 0
  · subst he
    obtain ⟨n, rfl, hn5, hnl, hpl, hpb⟩ := getFr_nat HBY.out HR.out
    obtain ⟨A2, c2, rfl, q1, q2⟩ := HOW.out.form
    have hgr := rget_any A2 p c2 w1 HOW.out.lies hpb q1 q2
    have hfo := first_of HR.out
    rw [HO.out] at hfo
    obtain ⟨r, m2, f, hgt⟩ : ∃ r m2 f, getRec p = (r, m2, f) := ⟨_, _, _, rfl⟩
    rw [hgt] at hgr hfo
    obtain ⟨xo, xt, xk, xv, xd⟩ := r
    unfold TellsRec recV at hgr
    dsimp only at hgr hfo
    have HGR := Lib.hid hgr
    have HFO := Lib.hid hfo
    obtain ⟨pl, hple⟩ : ∃ pl, p.length = pl := ⟨_, rfl⟩
    rw [hple] at HGR HFO q1 hpl ⊢
    have HQ := Lib.hid (And.intro q1 q2)
    have HPB := Lib.hid (And.intro hpb (And.intro hgt hple))
    clear hgr hfo hgt hple hpb hnl hn5 HO HR HBY HOW HLEN HCM h0
    go_wp2_with fail
    refine HGR.out.mono ?_
    rintro e' w2 ⟨rfl, hb2⟩
    have hz1 := HB1.out.size
    have HB2 := Lib.hid (HB1.out.trans (hb2.mono hz1))
    have h2 := HR1.out w2 hb2
    have hlt2 := heap_lt h2
    have HB3 := Lib.hid (HB2.out.alloc HB2.out.size (.cells #[.int .i64 xo, .int .i64 xt, .string xk, .string xv, .bool xd] 35))
    have hnew : ∀ j, (w2.alloc (.cells #[.int .i64 xo, .int .i64 xt, .string xk, .string xv, .bool xd] 35)).cell? ⟨w2.heap.size, j, none⟩ = (#[.int .i64 xo, .int .i64 xt, .string xk, .string xv, .bool xd] : Array Value)[j]? := fun j => by
      have : (w2.alloc (.cells #[.int .i64 xo, .int .i64 xt, .string xk, .string xv, .bool xd] 35)).heap[w2.heap.size]? = some (.cells #[.int .i64 xo, .int .i64 xt, .string xk, .string xv, .bool xd] 35) := by
        show (w2.heap.push _)[w2.heap.size]? = _
        simp
      unfold World.cell?
      rw [this]
      rfl
    have b0 := hnew 0
    have b1 := hnew 1
    have b2 := hnew 2
    have b3 := hnew 3
    have b4 := hnew 4
    simp only [List.getElem?_toArray, List.getElem?_cons_zero, List.getElem?_cons_succ] at b0 b1 b2 b3 b4
    obtain ⟨⟨r0, r1, r2, r3, r4⟩, rf⟩ := obj_cells h2
    have r0f := rf 0
    have r1f := rf 1
    have r2f := rf 2
    have r3f := rf 3
    have r4f := rf 4
    have H2 := Lib.hid h2
    clear rf h2 hnew HGR HR1 hb2
    by_cases hf : f = 0
    · subst hf
      obtain ⟨hright, hm2, _⟩ := getRec_back HPB.out.1 HPB.out.2.1
      obtain ⟨mm, hmm⟩ : ∃ mm, (recL (⟨xo, xt, xk, xv, xd⟩ : Rec)).length = mm := ⟨_, rfl⟩
      rw [hmm] at hm2
      subst hm2
      clear hright hmm HPB
      by_cases hmp : mm = pl
      · subst hmp
        have hq1 : ((mm : Int) != (mm : Int)) = false := by simp
        have HF : Hid (o = some (⟨xo, xt, xk, xv, xd⟩, n)) := Lib.hid (by
          have := HFO.out
          simpa using this)
        clear HFO
        go_wp2_with fail
        obtain ⟨W5, hW5⟩ : ∃ W5, W5 = ((((((w2.setCell ⟨w.heap.size, 0, none⟩ (.int .i64 xo)).setCell ⟨w.heap.size, 1, none⟩ (.int .i64 xt)).setCell ⟨w.heap.size, 2, none⟩ (.string xk)).setCell ⟨w.heap.size, 3, none⟩ (.string xv)).setCell ⟨w.heap.size, 4, none⟩ (.bool xd)).alloc (.cells #[.int .i64 xo, .int .i64 xt, .string xk, .string xv, .bool xd] 35)) := ⟨_, rfl⟩
        rw [← hW5]
        obtain ⟨k0, k1, k2, k3, k4⟩ := five_cells_more H2.out (.int .i64 xo) (.int .i64 xt) (.string xk) (.string xv) (.bool xd) _ W5 hW5
        have hB5 : Below w.heap.size w W5 := by
          rw [hW5]
          refine Below.alloc (((((HB2.out.setCell (Nat.le_refl _) _).setCell (Nat.le_refl _) _).setCell (Nat.le_refl _) _).setCell (Nat.le_refl _) _).setCell (Nat.le_refl _) _) ?_ _
          simp
          omega
        clear hW5
        (try simp only [Exit.inBlock, Exit.then])
        refine bodyPost_ret (by simp [results, Tryd.results47, go_sem, k0, k1, k2, k3, k4]; try rfl) rfl ?_
        exact TellsFirst.some HF.out hB5
      · have hq1 : ((mm : Int) != (pl : Int)) = true := by simp; omega
        have HF : Hid (o = none) := Lib.hid (by
          have := HFO.out
          rw [this, if_neg (by simp), if_pos (by omega)])
        clear HFO
        go_wp2_with fail
        obtain ⟨W5, hW5⟩ : ∃ W5, W5 = ((((((w2.setCell ⟨w.heap.size, 0, none⟩ (.int .i64 0)).setCell ⟨w.heap.size, 1, none⟩ (.int .i64 0)).setCell ⟨w.heap.size, 2, none⟩ (.string ⟨#[]⟩)).setCell ⟨w.heap.size, 3, none⟩ (.string ⟨#[]⟩)).setCell ⟨w.heap.size, 4, none⟩ (.bool false)).alloc (.cells #[.int .i64 xo, .int .i64 xt, .string xk, .string xv, .bool xd] 35)) := ⟨_, rfl⟩
        rw [← hW5]
        obtain ⟨k0, k1, k2, k3, k4⟩ := five_cells_more H2.out (.int .i64 0) (.int .i64 0) (.string ⟨#[]⟩) (.string ⟨#[]⟩) (.bool false) _ W5 hW5
        have hB5 : Below w.heap.size w W5 := by
          rw [hW5]
          refine Below.alloc (((((HB2.out.setCell (Nat.le_refl _) _).setCell (Nat.le_refl _) _).setCell (Nat.le_refl _) _).setCell (Nat.le_refl _) _).setCell (Nat.le_refl _) _) ?_ _
          simp
          omega
        clear hW5
        (try simp only [Exit.inBlock, Exit.then])
        refine bodyPost_ret (by simp [results, Tryd.results47, go_sem, k0, k1, k2, k3, k4]; try rfl) rfl ?_
        exact TellsFirst.none HF.out hB5
    · have hq1 : (f != 0) = true := by simpa using hf
      have HF : Hid (o = none) := Lib.hid (by
        have := HFO.out
        rw [this, if_pos hf])
      clear HFO
      go_wp2_with fail
      obtain ⟨W5, hW5⟩ : ∃ W5, W5 = ((((((w2.setCell ⟨w.heap.size, 0, none⟩ (.int .i64 0)).setCell ⟨w.heap.size, 1, none⟩ (.int .i64 0)).setCell ⟨w.heap.size, 2, none⟩ (.string ⟨#[]⟩)).setCell ⟨w.heap.size, 3, none⟩ (.string ⟨#[]⟩)).setCell ⟨w.heap.size, 4, none⟩ (.bool false)).alloc (.cells #[.int .i64 xo, .int .i64 xt, .string xk, .string xv, .bool xd] 35)) := ⟨_, rfl⟩
      rw [← hW5]
      obtain ⟨k0, k1, k2, k3, k4⟩ := five_cells_more H2.out (.int .i64 0) (.int .i64 0) (.string ⟨#[]⟩) (.string ⟨#[]⟩) (.bool false) _ W5 hW5
      have hB5 : Below w.heap.size w W5 := by
        rw [hW5]
        refine Below.alloc (((((HB2.out.setCell (Nat.le_refl _) _).setCell (Nat.le_refl _) _).setCell (Nat.le_refl _) _).setCell (Nat.le_refl _) _).setCell (Nat.le_refl _) _) ?_ _
        simp
        omega
      clear hW5
      (try simp only [Exit.inBlock, Exit.then])
      refine bodyPost_ret (by simp [results, Tryd.results47, go_sem, k0, k1, k2, k3, k4]; try rfl) rfl ?_
      exact TellsFirst.none HF.out hB5
  · have HF := Lib.hid (HO.out.symm.trans (first_not HR.out he))
    have heb : (e != 0) = true := by simpa using he
    have h1 := HR1.out w1 (Below.refl _ _)
    obtain ⟨⟨r0, r1, r2, r3, r4⟩, rf⟩ := obj_cells h1
    have r0f := rf 0
    have r1f := rf 1
    have r2f := rf 2
    have r3f := rf 3
    have r4f := rf 4
    clear rf HR HO HR1 HBY HLEN HCM
    go_wp2
    obtain ⟨k0, k1, k2, k3, k4⟩ := five_cells h1 (.int .i64 0) (.int .i64 0) (.string ⟨#[]⟩) (.string ⟨#[]⟩) (.bool false)
    (try simp only [Exit.inBlock, Exit.then])
    refine bodyPost_ret (by simp [results, Tryd.results47, go_sem, k0, k1, k2, k3, k4]; try rfl) rfl ?_
    exact TellsFirst.none HF.out (((((HB1.out.setCell (Nat.le_refl _) _).setCell (Nat.le_refl _) _).setCell (Nat.le_refl _) _).setCell (Nat.le_refl _) _).setCell (Nat.le_refl _) _)
end Go.Proofs.YtffmfgbjlijpeaaDoor
