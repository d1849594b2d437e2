/- A contract of the document's own Crash: what a store into the row of files leaves, how far a crash has come. -/
import Derived.Test.YtefjbefmmmllbaaDoorRDRename
import Derived.Test.YtefjbefmmmllbaaDoorVDCrash
namespace Go.Proofs.YtefjbefmmmllbaaDoor
open Go.RowKit

theorem filesOf_set (fs : List FileV) (i : Nat) (x : FileV) : filesOf (fs.set i x) = (filesOf fs).set i x.1 := by unfold filesOf; rw [List.map_set]
theorem filesCs_set : ∀ (fs : List FileV) (i : Nat) (_ : i < fs.length) (x : FileV), filesCs (fs.set i x) = (((filesCs fs).set (i * 3) (.string x.1.name)).set (i * 3 + 1) x.2).set (i * 3 + 2) (.int .i64 (x.1.loose : Int))
  | a :: t, 0, _, x => rfl
  | a :: t, i + 1, hi, x => by
    have ih := filesCs_set t i (by simpa using hi) x
    have e : (i + 1) * 3 = i * 3 + 3 := by omega
    rw [e]
    show fileCs a ++ filesCs (t.set i x) = ((((fileCs a ++ filesCs t).set (i * 3 + 3) _).set (i * 3 + 3 + 1) _).set (i * 3 + 3 + 2) _)
    rw [ih]
    rfl
section
variable {base : Nat} {S : Nat → Prop} {w : World} {p : Nat} {room : Int} {fs : List FileV}
/-- The row of a disk that has files. -/
structure RowAt (S : Nat → Prop) (w : World) (p : Nat) (room : Int) (fs : List FileV) (g c : Nat) : Prop where
  cell : w.cell? ⟨p, 1, none⟩ = some (.slice (some ⟨g, 0, none⟩) fs.length c)
  block : w.heap[p]? = some (.cells #[.int .i64 room, .slice (some ⟨g, 0, none⟩) fs.length c] 47 (0, 0))
  row : w.ownsRow 0 74 3 (.slice (some ⟨g, 0, none⟩) fs.length c) fs.length (filesCs fs)
  mine : S g
  ne : g ≠ p
  cap : fs.length ≤ c
  capm : c ≤ maxLen
theorem RDisk.rowAt (hR : RDisk base S w p room fs) (hn : fs ≠ []) : ∃ g c, RowAt S w p room fs g c := by
  obtain ⟨h1, h2, lv, hp, hr⟩ := hR
  have h' := hr.1
  rcases hr.1.2 with ⟨rfl, h0⟩ | ⟨g, cap, cur, rfl, hbg, hg, hc, hm, _⟩
  · exact absurd (List.eq_nil_of_length_eq_zero h0) hn
  · refine ⟨g, cap, ?_, hp, h', hr.2.1 g rfl, ?_, hc, hm⟩
    · unfold World.cell?
      rw [hp]
      rfl
    · rintro rfl
      rw [hp] at hg
      injection hg with hg
      injection hg with _ h3 _
      exact absurd h3 (by decide)
theorem RowAt.file {g c : Nat} (h : RowAt S w p room fs g c) {i : Nat} (hi : i < fs.length) : w.cell? ⟨g, i * 3, none⟩ = some (.string fs[i].1.name) ∧ w.cell? ⟨g, i * 3 + 1, none⟩ = some fs[i].2 ∧ w.cell? ⟨g, i * 3 + 2, none⟩ = some (.int .i64 (fs[i].1.loose : Int)) ∧ ∀ j, w.frozen? ⟨g, j, none⟩ = false := by
  have f : ∀ j, j < 3 → w.cell? ⟨g, i * 3 + j, none⟩ = (fileCs fs[i])[j]? := fun j hj => by rw [h.row.cellAt (i * 3 + j) (by omega), filesCs_at fs i j hi hj]
  exact ⟨f 0 (by omega), f 1 (by omega), f 2 (by omega), h.row.frozenAt⟩
/-- A file stored into its place in the row. -/
theorem row_set3 (hR : RDisk base S w p room fs) {g c i : Nat} (h : RowAt S w p room fs g c) (hi : i < fs.length) (x : FileV) (hx : SlIn S w x.2 x.1.b) (hwf : x.1.wf) {W : World}
    (hW : W = ((w.setCell ⟨g, i * 3, none⟩ (.string x.1.name)).setCell ⟨g, i * 3 + 1, none⟩ x.2).setCell ⟨g, i * 3 + 2, none⟩ (.int .i64 (x.1.loose : Int))) : RDisk base S W p room (fs.set i x) ∧ Keep S w W := by
  obtain ⟨h1, h2, lv, hp, hr⟩ := hR
  obtain ⟨s1, g1⟩ := h.row.stored (i * 3) (.string x.1.name)
  obtain ⟨s2, g2⟩ := s1.stored (i * 3 + 1) x.2
  obtain ⟨s3, g3⟩ := s2.stored (i * 3 + 2) (.int .i64 (x.1.loose : Int))
  rw [← hW] at s3 g3
  have hblk : ∀ j, j < w.heap.size → j ≠ g → W.heap[j]? = w.heap[j]? := fun j hj hne => by
    have hne' : some j ≠ some g := fun e => hne (by injection e)
    rw [g3.block j (Nat.lt_of_lt_of_le hj (Nat.le_trans g1.size g2.size)) hne', g2.block j (Nat.lt_of_lt_of_le hj g1.size) hne', g1.block j hj hne']
  have hsz : w.heap.size ≤ W.heap.size := Nat.le_trans (Nat.le_trans g1.size g2.size) g3.size
  obtain ⟨cur, hcur⟩ : ∃ cur, w.heap[g]? = some (.cells cur 74 (0, 0)) := by
    rcases h.row.2 with ⟨e, _⟩ | ⟨g', cap, cur, e, _, hg, _⟩
    · cases e
    · injection e with e1
      injection e1 with e1
      injection e1 with e1
      subst e1
      exact ⟨cur, hg⟩
  have hsl : ∀ {v : Value} {xs : List Int}, SlIn S w v xs → SlIn S W v xs := fun hs => hs.written hcur (by decide) fun j hne hj => hblk j hj hne
  refine ⟨⟨h1.more hsz, h2, .slice (some ⟨g, 0, none⟩) fs.length c, ?_, ⟨?_, fun g' hg' => ?_, fun y hy => ?_⟩⟩, ⟨g3.os.trans (g2.os.trans g1.os), g3.tape.trans (g2.tape.trans g1.tape), g3.output.trans (g2.output.trans g1.output), hsz, fun j hj hn => hblk j hj fun e => hn (by rw [e]; exact h.mine)⟩⟩
  · rw [hblk p (h1.2 p h2).2 fun e => h.ne e.symm]
    exact h.block
  · rw [List.length_set, filesCs_set fs i hi x]
    exact s3
  · simp only [Value.ownBlock, Option.some.injEq] at hg'
    rw [← hg']
    exact h.mine
  · rcases List.mem_or_eq_of_mem_set hy with hy | rfl
    · exact ⟨hsl (hr.2.2 y hy).1, (hr.2.2 y hy).2⟩
    · exact ⟨hsl hx, hwf⟩
end
/-- How far a crash has come: the first i files are done, q numbers are taken. -/
structure RCrashing (base : Nat) (S : Nat → Prop) (w : World) (p : Nat) (room : Int) (L : List FileM) (keep : List Int) (wr : World) (i : Nat) (fs : List FileV) (q : Nat) : Prop where
  left : RLeft base S w wr p room fs
  all : crashM L keep = (filesOf fs).take i ++ crashM (L.drop i) (keep.drop q)
  rest : (filesOf fs).drop i = L.drop i
  len : fs.length = L.length
section
variable {base : Nat} {S : Nat → Prop} {w wr W : World} {p : Nat} {room : Int} {fs : List FileV} {L : List FileM} {keep : List Int} {i q : Nat}
theorem RCrashing.at_ (h : RCrashing base S w p room L keep wr i fs q) (hi : i < fs.length) : L.drop i = fs[i].1 :: L.drop (i + 1) ∧ (filesOf fs).take (i + 1) = (filesOf fs).take i ++ [fs[i].1] ∧ fs[i].1 ∈ L := by
  have hl : i < (filesOf fs).length := by rw [filesOf_length]; exact hi
  have e := filesOf_at fs i hi
  have h1 : L.drop i = fs[i].1 :: L.drop (i + 1) := by
    have e5 := congrArg (List.drop 1) h.rest
    rw [List.drop_drop, List.drop_drop] at e5
    rw [← h.rest, List.drop_eq_getElem_cons hl, e, e5]
  refine ⟨h1, ?_, ?_⟩
  · rw [List.take_succ_eq_append_getElem hl, e]
  · exact List.mem_of_mem_drop (i := i) (by rw [h1]; exact List.mem_cons_self)
theorem RCrashing.behind {fs0 : List FileV} (h0 : RDisk base S w p room fs0) (h : RCrashing base S w p room L keep wr i fs q) (hb : Below wr.heap.size wr W) : RCrashing base S w p room L keep W i fs q :=
  ⟨RLeft.trans h0 h.left (RLeft.of_below h.left.disk hb), h.all, h.rest, h.len⟩
theorem RCrashing.skip (h : RCrashing base S w p room L keep wr i fs q) (hi : i < fs.length) (hlo : fs[i].1.loose = 0) : RCrashing base S w p room L keep wr (i + 1) fs q := by
  obtain ⟨e1, e2, _⟩ := h.at_ hi
  refine ⟨h.left, ?_, ?_, h.len⟩
  · rw [h.all, e1, crashM, if_pos hlo, e2, List.append_assoc]
    rfl
  · rw [← List.drop_drop (i := 1), h.rest, List.drop_drop]
theorem RowAt.below {g c : Nat} (h : RowAt S w p room fs g c) (hp : p < w.heap.size) (hb : Below w.heap.size w W) : RowAt S W p room fs g c :=
  ⟨(hb.cell hp).trans h.cell, by rw [hb.block p hp]; exact h.block, World.ownsRow.kept (row := none) h.row ⟨hb.os, hb.tape, hb.output, hb.size, fun i hi _ => hb.block i hi⟩ (by simp [Value.ownBlock]), h.mine, h.ne, h.cap, h.capm⟩
theorem set_take {l : List FileM} {i : Nat} (hi : i < l.length) (x : FileM) : (l.set i x).take (i + 1) = l.take i ++ [x] ∧ (l.set i x).drop (i + 1) = l.drop (i + 1) := by
  constructor
  · rw [List.take_succ_eq_append_getElem (by rw [List.length_set]; exact hi), List.take_set_of_le (Nat.le_refl _), List.getElem_set_self]
  · rw [List.drop_set_of_lt (by omega)]
theorem RCrashing.cut {fs0 : List FileV} (h0 : RDisk base S w p room fs0) (h : RCrashing base S w p room L keep wr i fs q) (hi : i < fs.length) (hlo : fs[i].1.loose ≠ 0) {W0 : World} (hb : Below wr.heap.size wr W0) {g c : Nat} (hrow : RowAt (Grow S w wr) wr p room fs g c)
    (v : Value) (bs : List Int) (hbs : bs = (crashF fs[i].1 ((keep.drop q).headD 0)).b) (hv : SlIn (Grow S w W0) W0 v bs)
    (hW : W = ((W0.setCell ⟨g, i * 3, none⟩ (.string fs[i].1.name)).setCell ⟨g, i * 3 + 1, none⟩ v).setCell ⟨g, i * 3 + 2, none⟩ (.int .i64 0)) : ∃ fs', RCrashing base S w p room L keep W (i + 1) fs' (q + 1) := by
  subst hbs
  have h' := h.behind h0 hb
  have hgr : ∀ j, Grow S w wr j → Grow S w W0 j := fun j hj => by
    have := hb.size
    rcases hj with hj | hj
    · exact .inl hj
    · exact .inr (by omega)
  have hr1 := hrow.below (h.left.disk.1.2 p h.left.disk.2.1).2 hb
  have hr2 : RowAt (Grow S w W0) W0 p room fs g c := ⟨hr1.cell, hr1.block, hr1.row, hgr g hr1.mine, hr1.ne, hr1.cap, hr1.capm⟩
  have hwf : fs[i].1.wf := by obtain ⟨_, _, _, _, hr⟩ := h.left.disk; exact (hr.2.2 _ (List.getElem_mem hi)).2
  obtain ⟨hD, hK⟩ := row_set3 h'.left.disk hr2 hi (crashF fs[i].1 ((keep.drop q).headD 0), v) hv ⟨hwf.1, fun x hx => hwf.2.1 x (List.mem_of_mem_take hx), Nat.zero_le _⟩ hW
  obtain ⟨e1, e2, _⟩ := h.at_ hi
  have hl : i < (filesOf fs).length := by rw [filesOf_length]; exact hi
  obtain ⟨t1, t2⟩ := set_take hl (crashF fs[i].1 ((keep.drop q).headD 0))
  refine ⟨_, RLeft.trans h0 h'.left ⟨hK, hD.mono (fun _ => .inl) (h'.left.disk.1.grow hK.size)⟩, ?_, ?_, ?_⟩
  · rw [h.all, e1, crashM, if_neg hlo, filesOf_set, t1, List.append_assoc, List.tail_drop]
    rfl
  · rw [filesOf_set, t2, ← List.drop_drop (i := 1), h.rest, List.drop_drop]
  · rw [List.length_set]
    exact h.len
theorem RCrashing.done (h : RCrashing base S w p room L keep wr i fs q) (hi : fs.length ≤ i) : filesOf fs = crashM L keep := by
  have hl := h.len
  rw [h.all, List.drop_of_length_le (by omega), crashM, List.append_nil, List.take_of_length_le (by rw [filesOf_length]; exact hi)]
end
end Go.Proofs.YtefjbefmmmllbaaDoor
