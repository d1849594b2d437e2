/- Files by rising names as the entries of a map: what is found, put and struck there. Plain mathematics; no program is spoken of here. -/
import Derived.Test.YtefjbefmmmllbaaDoorDiskNum
import Derived.Maps.OwnSet
namespace Go.Proofs.YtefjbefmmmllbaaDoor
open Go.RowKit Go.Maps

theorem bytesLess_lt : ∀ (x y : List UInt8), Op.bytesLess x y = decide (x < y)
  | [], [] => by simp [Op.bytesLess]
  | _ :: _, [] => by simp [Op.bytesLess]
  | [], _ :: _ => by simp [Op.bytesLess]
  | a :: x, b :: y => by
    rw [Op.bytesLess, bytesLess_lt x y]
    simp only [List.cons_lt_cons_iff]
    by_cases h1 : a < b <;> by_cases h2 : a = b <;> by_cases h3 : x < y <;> simp [h1, h2, h3]
theorem before_less : ∀ (x y : List UInt8), bytesBefore x y = Op.bytesLess x y
  | [], [] => rfl
  | _ :: _, [] => rfl
  | [], _ :: _ => rfl
  | a :: x, b :: y => by rw [bytesBefore, Op.bytesLess, before_less x y]
theorem ltS_lt (a b : ByteArray) : ltS a b = decide (a.data.toList < b.data.toList) := by unfold ltS; rw [bytesLess_lt, ByteArray.toList_eq, ByteArray.toList_eq]
theorem name_eq {a b : ByteArray} (h : a.data.toList = b.data.toList) : a = b := by
  cases a with
  | mk a =>
    cases b with
    | mk b => simp only at h; rw [Array.toList_inj.1 h]
theorem name_beq (a b : ByteArray) : (a.toList == b.toList) = decide (a = b) := by
  rw [ByteArray.toList_eq, ByteArray.toList_eq]
  by_cases h : a = b
  · subst h; simp
  · rw [decide_eq_false h]
    simp only [beq_eq_false_iff_ne, ne_eq]
    exact fun e => h (name_eq e)
theorem ltS_self (a : ByteArray) : ltS a a = false := by rw [ltS_lt]; exact decide_eq_false (List.lt_irrefl _)
theorem ltS_trans {a b c : ByteArray} (h : ltS a b = true) (h' : ltS b c = true) : ltS a c = true := by
  rw [ltS_lt] at *
  simp only [decide_eq_true_eq] at *
  exact List.lt_trans h h'
theorem ltS_ne {a b : ByteArray} (h : ltS a b = true) : a ≠ b := by rintro rfl; rw [ltS_self] at h; cases h
theorem ltS_asymm {a b : ByteArray} (h : ltS a b = true) : ltS b a = false := by
  cases h' : ltS b a with
  | false => rfl
  | true => have := ltS_trans h h'; rw [ltS_self] at this; cases this
theorem ltS_tri (a b : ByteArray) : ltS a b = true ∨ a = b ∨ ltS b a = true := by
  rw [ltS_lt, ltS_lt]
  simp only [decide_eq_true_eq]
  rcases List.le_total a.data.toList b.data.toList with h | h
  · by_cases e : a.data.toList < b.data.toList
    · exact .inl e
    · exact .inr (.inl (name_eq (List.le_antisymm h (List.not_lt.1 e))))
  · by_cases e : b.data.toList < a.data.toList
    · exact .inr (.inr e)
    · exact .inr (.inl (name_eq (List.le_antisymm (List.not_lt.1 e) h)))

/-- A file, the block that it lies in, the slice of its bytes. -/
structure FileP where
  f : FileM
  g : Nat
  v : Value
def filesP (fs : List FileP) : List FileM := fs.map FileP.f
theorem filesP_length (fs : List FileP) : (filesP fs).length = fs.length := by simp [filesP]
theorem filesP_at (fs : List FileP) (i : Nat) (h : i < fs.length) : (filesP fs)[i]'(by rw [filesP_length]; exact h) = fs[i].f := by simp [filesP]
theorem filesP_cons (x : FileP) (fs : List FileP) : filesP (x :: fs) = x.f :: filesP fs := rfl
def Rising (l : List FileM) : Prop := l.Pairwise fun a b => ltS a.name b.name = true

theorem findK_cons (h : FileM) (t : List FileM) (n : ByteArray) : findK (h :: t) n = if ltS h.name n = true then findK t n + 1 else 0 := by
  unfold findK
  rw [List.takeWhile_cons]
  split <;> simp
theorem hasF_cons (h : FileM) (t : List FileM) (n : ByteArray) : hasF (h :: t) n = if ltS h.name n = true then hasF t n else decide (h.name = n) := by
  unfold hasF
  rw [findK_cons]
  by_cases e : ltS h.name n = true
  · rw [if_pos e, if_pos e, List.getElem?_cons_succ]
  · rw [if_neg e, if_neg e, List.getElem?_cons_zero]
    exact name_beq h.name n
theorem hasF_name {l : List FileM} {n : ByteArray} (h : hasF l n = true) : (l[findK l n]'(hasF_lt h)).name = n := by
  have h1 := hasF_at l n (hasF_lt h)
  rw [h, name_beq] at h1
  exact of_decide_eq_true h1.symm
theorem hasF_not {l : List FileM} {n : ByteArray} (hr : Rising l) (h : hasF l n = false) : ∀ f ∈ l, f.name ≠ n := by
  induction l with
  | nil => intro f hf; cases hf
  | cons a t ih =>
    obtain ⟨h1, h2⟩ := List.pairwise_cons.1 hr
    rw [hasF_cons] at h
    intro f hf
    rcases ltS_tri a.name n with e | e | e
    · rw [if_pos e] at h
      rcases List.mem_cons.1 hf with rfl | hf
      · exact ltS_ne e
      · exact ih h2 h f hf
    · rw [if_neg (by rw [e, ltS_self]; simp)] at h
      exact absurd e (of_decide_eq_false h)
    · rcases List.mem_cons.1 hf with rfl | hf
      · exact (ltS_ne e).symm
      · exact (ltS_ne (ltS_trans e (h1 f hf))).symm
theorem hasF_mem {l : List FileM} (hr : Rising l) {f : FileM} (hf : f ∈ l) : hasF l f.name = true := by
  cases h : hasF l f.name with
  | true => rfl
  | false => exact absurd rfl (hasF_not hr h f hf)

/-- A file laid into its place. -/
def layP (fs : List FileP) (x : FileP) : List FileP := fs.take (findK (filesP fs) x.f.name) ++ x :: fs.drop (tailK (filesP fs) x.f.name)
def delP (fs : List FileP) (n : ByteArray) : List FileP := fs.take (findK (filesP fs) n) ++ fs.drop (findK (filesP fs) n + 1)
theorem filesP_layP (fs : List FileP) (x : FileP) : filesP (layP fs x) = layF (filesP fs) x.f := by
  unfold layP layF filesP
  rw [List.map_append, List.map_cons, List.map_take, List.map_drop]
theorem filesP_delP (fs : List FileP) (n : ByteArray) : filesP (delP fs n) = (filesP fs).take (findK (filesP fs) n) ++ (filesP fs).drop (findK (filesP fs) n + 1) := by
  unfold delP filesP
  rw [List.map_append, List.map_take, List.map_drop]
theorem tailK_cons_lt {h : FileM} {t : List FileM} {n : ByteArray} (e : ltS h.name n = true) : tailK (h :: t) n = tailK t n + 1 := by
  unfold tailK
  rw [hasF_cons, findK_cons, if_pos e, if_pos e]
  split <;> rfl
theorem layP_lt {h x : FileP} {t : List FileP} (e : ltS h.f.name x.f.name = true) : layP (h :: t) x = h :: layP t x := by
  unfold layP
  rw [filesP_cons, tailK_cons_lt e, findK_cons, if_pos e]
  rfl
theorem layP_eq {h x : FileP} {t : List FileP} (e : h.f.name = x.f.name) : layP (h :: t) x = x :: t := by
  have e1 : ltS h.f.name x.f.name = false := by rw [e, ltS_self]
  unfold layP tailK
  rw [filesP_cons, hasF_cons, findK_cons, e1]
  simp [e]
theorem layP_gt {h x : FileP} {t : List FileP} (e : ltS x.f.name h.f.name = true) : layP (h :: t) x = x :: h :: t := by
  have e1 := ltS_asymm e
  unfold layP tailK
  rw [filesP_cons, hasF_cons, findK_cons, e1]
  simp [(ltS_ne e).symm]
theorem layP_nil (x : FileP) : layP [] x = [x] := by simp [layP, filesP, findK, tailK, hasF]
theorem delP_lt {h : FileP} {t : List FileP} {n : ByteArray} (e : ltS h.f.name n = true) : delP (h :: t) n = h :: delP t n := by
  unfold delP
  rw [filesP_cons, findK_cons, if_pos e]
  rfl
theorem delP_eq {h : FileP} {t : List FileP} : delP (h :: t) h.f.name = t := by
  unfold delP
  rw [filesP_cons, findK_cons, ltS_self]
  simp
theorem mem_layP {fs : List FileP} {x y : FileP} (h : y ∈ layP fs x) : y = x ∨ y ∈ fs := by
  unfold layP at h
  rcases List.mem_append.1 h with h | h
  · exact .inr (List.mem_of_mem_take h)
  · rcases List.mem_cons.1 h with rfl | h
    · exact .inl rfl
    · exact .inr (List.mem_of_mem_drop h)
theorem mem_delP {fs : List FileP} {n : ByteArray} {y : FileP} (h : y ∈ delP fs n) : y ∈ fs := by
  unfold delP at h
  rcases List.mem_append.1 h with h | h
  · exact List.mem_of_mem_take h
  · exact List.mem_of_mem_drop h
theorem self_layP (fs : List FileP) (x : FileP) : x ∈ layP fs x := by unfold layP; simp
theorem delP_sub (fs : List FileP) (n : ByteArray) : List.Sublist (delP fs n) fs := by
  unfold delP
  refine List.Sublist.trans (List.Sublist.append_left (List.drop_sublist_drop_left fs (Nat.le_succ _)) _) ?_
  rw [List.take_append_drop]
  exact List.Sublist.refl _
/-- Laying keeps whatever holds of every two, if it holds of the new one and each other name. -/
theorem layP_pair {R : FileP → FileP → Prop} {fs : List FileP} {x : FileP} (hs : ∀ a b, R a b → R b a) (hr : Rising (filesP fs)) (h : fs.Pairwise R) (hx : ∀ y ∈ fs, y.f.name ≠ x.f.name → R x y) : (layP fs x).Pairwise R := by
  induction fs with
  | nil => rw [layP_nil]; simp
  | cons a t ih =>
    obtain ⟨h1, h2⟩ := List.pairwise_cons.1 h
    rw [filesP_cons] at hr
    obtain ⟨r1, r2⟩ := List.pairwise_cons.1 hr
    have r1' : ∀ y ∈ t, ltS a.f.name y.f.name = true := fun y hy => r1 y.f (List.mem_map.2 ⟨y, hy, rfl⟩)
    rcases ltS_tri a.f.name x.f.name with e | e | e
    · rw [layP_lt e]
      refine List.pairwise_cons.2 ⟨fun y hy => ?_, ih r2 h2 fun y hy => hx y (List.mem_cons_of_mem _ hy)⟩
      rcases mem_layP hy with rfl | hy
      · exact hs _ _ (hx a (by simp) (ltS_ne e))
      · exact h1 y hy
    · rw [layP_eq e]
      refine List.pairwise_cons.2 ⟨fun y hy => hx y (List.mem_cons_of_mem _ hy) ?_, h2⟩
      rw [← e]
      exact (ltS_ne (r1' y hy)).symm
    · rw [layP_gt e]
      refine List.pairwise_cons.2 ⟨fun y hy => hx y hy ?_, h⟩
      rcases List.mem_cons.1 hy with rfl | hy
      · exact (ltS_ne e).symm
      · exact (ltS_ne (ltS_trans e (r1' y hy))).symm
theorem layP_rising {fs : List FileP} {x : FileP} (hr : Rising (filesP fs)) : Rising (filesP (layP fs x)) := by
  induction fs with
  | nil => rw [layP_nil]; simp [Rising, filesP]
  | cons a t ih =>
    rw [filesP_cons] at hr
    obtain ⟨r1, r2⟩ := List.pairwise_cons.1 hr
    rcases ltS_tri a.f.name x.f.name with e | e | e
    · rw [layP_lt e, filesP_cons]
      refine List.pairwise_cons.2 ⟨fun y hy => ?_, ih r2⟩
      obtain ⟨z, hz, rfl⟩ := List.mem_map.1 hy
      rcases mem_layP hz with rfl | hz
      · exact e
      · exact r1 z.f (List.mem_map.2 ⟨z, hz, rfl⟩)
    · rw [layP_eq e, filesP_cons]
      exact List.pairwise_cons.2 ⟨fun y hy => by rw [← e]; exact r1 y hy, r2⟩
    · rw [layP_gt e, filesP_cons, filesP_cons]
      refine List.pairwise_cons.2 ⟨fun y hy => ?_, hr⟩
      rcases List.mem_cons.1 hy with rfl | hy
      · exact e
      · exact ltS_trans e (r1 y hy)
theorem delP_rising {fs : List FileP} {n : ByteArray} (hr : Rising (filesP fs)) : Rising (filesP (delP fs n)) :=
  List.Pairwise.sublist ((delP_sub fs n).map FileP.f) hr

/-- The map of files. -/
def keyN (n : ByteArray) : Lit := .string n.data.toList
def entryP (x : FileP) : Lit × DataW Unit := (keyN x.f.name, .lit (.int .i64 (x.g : Int)))
def mapD (fs : List FileP) : DataW Unit := .map (fs.map entryP)
theorem key_before (a b : ByteArray) : (keyN a).before (keyN b) = ltS a b := by
  show bytesBefore _ _ = _
  unfold ltS
  rw [before_less, ByteArray.toList_eq, ByteArray.toList_eq]
theorem key_same (a b : ByteArray) : (keyN a).sameKey (keyN b) = decide (a = b) := by
  rw [← name_beq, ByteArray.toList_eq, ByteArray.toList_eq]
  rfl
theorem map_at {fs : List FileP} (hr : Rising (filesP fs)) {x : FileP} (hx : x ∈ fs) (z : DataW Unit) : (mapD fs).atKey (keyN x.f.name) z = .lit (.int .i64 (x.g : Int)) := by
  unfold mapD DataW.atKey
  dsimp only
  induction fs with
  | nil => cases hx
  | cons a t ih =>
    rw [filesP_cons] at hr
    obtain ⟨r1, r2⟩ := List.pairwise_cons.1 hr
    rw [List.map_cons, List.find?_cons]
    rcases List.mem_cons.1 hx with rfl | hx
    · rw [show (entryP x).1.sameKey (keyN x.f.name) = true by show (keyN _).sameKey _ = _; rw [key_same]; simp]
      rfl
    · have : ltS a.f.name x.f.name = true := r1 x.f (List.mem_map.2 ⟨x, hx, rfl⟩)
      rw [show (entryP a).1.sameKey (keyN x.f.name) = false by show (keyN _).sameKey _ = _; rw [key_same]; exact decide_eq_false (ltS_ne this)]
      exact ih r2 hx
theorem map_none {fs : List FileP} {n : ByteArray} (h : ∀ x ∈ fs, x.f.name ≠ n) (z : DataW Unit) : (mapD fs).atKey (keyN n) z = z := by
  unfold mapD DataW.atKey
  dsimp only
  rw [List.find?_eq_none.2]
  intro p hp
  obtain ⟨x, hx, rfl⟩ := List.mem_map.1 hp
  show ¬ (keyN _).sameKey _ = true
  rw [key_same]
  simpa using h x hx
theorem filter_all {fs : List FileP} {n : ByteArray} (h : ∀ x ∈ fs, x.f.name ≠ n) : (fs.map entryP).filter (fun p => !p.1.sameKey (keyN n)) = fs.map entryP := by
  refine List.filter_eq_self.2 fun p hp => ?_
  obtain ⟨x, hx, rfl⟩ := List.mem_map.1 hp
  show (!(keyN _).sameKey _) = true
  rw [key_same, decide_eq_false (h x hx)]
  rfl
theorem map_put {fs : List FileP} (hr : Rising (filesP fs)) (x : FileP) : (mapD fs).put (keyN x.f.name) (.lit (.int .i64 (x.g : Int))) = mapD (layP fs x) := by
  show DataW.map (DataW.insert (entryP x) ((fs.map entryP).filter fun p => !p.1.sameKey (keyN x.f.name))) = .map ((layP fs x).map entryP)
  congr 1
  induction fs with
  | nil => rw [layP_nil]; rfl
  | cons a t ih =>
    rw [filesP_cons] at hr
    obtain ⟨r1, r2⟩ := List.pairwise_cons.1 hr
    have r1' : ∀ y ∈ t, ltS a.f.name y.f.name = true := fun y hy => r1 y.f (List.mem_map.2 ⟨y, hy, rfl⟩)
    have hb : (entryP x).1.before (entryP a).1 = ltS x.f.name a.f.name := key_before _ _
    have hs : (entryP a).1.sameKey (keyN x.f.name) = decide (a.f.name = x.f.name) := key_same _ _
    rw [List.map_cons, List.filter_cons, hs]
    rcases ltS_tri a.f.name x.f.name with e | e | e
    · rw [layP_lt e, decide_eq_false (ltS_ne e), if_pos (by rfl : (!false) = true), DataW.insert, hb, ltS_asymm e, if_neg (by simp), ih r2]
      rfl
    · have hn : ∀ y ∈ t, y.f.name ≠ x.f.name := fun y hy => by rw [← e]; exact (ltS_ne (r1' y hy)).symm
      rw [layP_eq e, decide_eq_true e, if_neg (by simp : ¬ (!true) = true), filter_all hn]
      cases t with
      | nil => rfl
      | cons b t' =>
        have hb2 : (entryP x).1.before (entryP b).1 = ltS x.f.name b.f.name := key_before _ _
        rw [List.map_cons, DataW.insert, hb2, ← e, r1' b (by simp), if_pos rfl]
        rfl
    · have hn : ∀ y ∈ t, y.f.name ≠ x.f.name := fun y hy => (ltS_ne (ltS_trans e (r1' y hy))).symm
      rw [layP_gt e, decide_eq_false (ltS_ne e).symm, if_pos (by rfl : (!false) = true), filter_all hn, DataW.insert, hb, e, if_pos rfl]
      rfl
theorem map_del {fs : List FileP} (hr : Rising (filesP fs)) {n : ByteArray} (h : hasF (filesP fs) n = true) : (mapD fs).del (keyN n) = mapD (delP fs n) := by
  show DataW.map ((fs.map entryP).filter fun p => !p.1.sameKey (keyN n)) = .map ((delP fs n).map entryP)
  congr 1
  induction fs with
  | nil => cases h
  | cons a t ih =>
    rw [filesP_cons] at hr h
    obtain ⟨r1, r2⟩ := List.pairwise_cons.1 hr
    rw [hasF_cons] at h
    have hs : (entryP a).1.sameKey (keyN n) = decide (a.f.name = n) := key_same _ _
    rw [List.map_cons, List.filter_cons, hs]
    by_cases e : ltS a.f.name n = true
    · rw [if_pos e] at h
      rw [delP_lt e, decide_eq_false (ltS_ne e), if_pos (by rfl : (!false) = true), ih r2 h]
      rfl
    · rw [if_neg e] at h
      obtain rfl := of_decide_eq_true h
      have hn : ∀ y ∈ t, y.f.name ≠ a.f.name := fun y hy => (ltS_ne (r1 y.f (List.mem_map.2 ⟨y, hy, rfl⟩))).symm
      rw [delP_eq, decide_eq_true (rfl : a.f.name = a.f.name), if_neg (by simp : ¬ (!true) = true), filter_all hn]
theorem mapD_size (fs : List FileP) : Maps.size (mapD fs) = fs.length := by simp [mapD, Maps.size]

/-- How a pointer to a file reads: by its block. -/
def ptrElem : Value → Option (DataW Unit × List MemPlace)
  | .pointer none => some (.nil, [])
  | .pointer (some ⟨g, 0, none⟩) => some (.lit (.int .i64 (g : Int)), [])
  | _ => none
theorem ptrElem_mk (g : Nat) : ptrElem (.pointer (some ⟨g, 0, none⟩)) = some (.lit (.int .i64 (g : Int)), []) := rfl
theorem ptrElem_inv {v : Value} {g : Nat} {ps : List MemPlace} (h : ptrElem v = some (.lit (.int .i64 (g : Int)), ps)) : v = .pointer (some ⟨g, 0, none⟩) := by
  unfold ptrElem at h
  split at h
  · simp at h
  · simp only [Option.some.injEq, Prod.mk.injEq, DataW.lit.injEq, Lit.int.injEq, true_and] at h
    rw [show _ = g from Int.ofNat_inj.1 h.1]
  · cases h
theorem ptrElem_nil {v : Value} {ps : List MemPlace} (h : ptrElem v = some (.nil, ps)) : v = .pointer none := by
  unfold ptrElem at h
  split at h
  · rfl
  · simp at h
  · cases h
end Go.Proofs.YtefjbefmmmllbaaDoor
