/- What a call leaves of the program's disk; how much is used behind it; bytes that lie beside it. -/
import Derived.Test.YtefjbefmmmllbaaDoorVDSet
namespace Go.Proofs.YtefjbefmmmllbaaDoor
open Go.RowKit Go.Maps

/-- A call has written the disk's own blocks and new ones alone, and the disk has these files now. -/
structure Left (base : Nat) (S : Nat → Prop) (w w' : World) (p : Nat) (room u : Int) (fs : List FileP) : Prop where
  keep : Keep S w w'
  disk : VDiskU base (Grow S w w') w' p room u fs
section
variable {base : Nat} {S : Nat → Prop} {w w' w'' : World} {p : Nat} {room u u' : Int} {fs fs' : List FileP}
theorem grow_trans {i : Nat} (h1 : w.heap.size ≤ w'.heap.size) (h2 : w'.heap.size ≤ w''.heap.size) (h : Grow (Grow S w w') w' w'' i) : Grow S w w'' i := by
  rcases h with (h | h) | h
  · exact .inl h
  · exact .inr (by omega)
  · exact .inr (by omega)
theorem Left.trans (hW : Within base S w) (h : Keep S w w') (h' : Left base (Grow S w w') w' w'' p room u' fs') : Left base S w w'' p room u' fs' := by
  have hk : Keep S w w'' := h.trans h'.keep fun i hi hs => by
    rcases hs with hs | hs
    · exact hs
    · omega
  exact ⟨hk, h'.disk.mono (fun i hi => grow_trans h.size h'.keep.size hi) (hW.grow hk.size)⟩
theorem Left.of_below (h : VDiskU base S w p room u fs) (hb : Below w.heap.size w w') : Left base S w w' p room u fs :=
  ⟨Keep.of_below hb, (h.below hb).mono (fun _ => .inl) (h.within.grow hb.size)⟩
/-- A call behind one that has only made new blocks. -/
theorem Left.behind (hb : Below w.heap.size w w') (h' : Left base S w' w'' p room u' fs') (hW : Within base S w) : Left base S w w'' p room u' fs' := by
  have hk : Keep S w w'' := (Keep.of_below (S := S) hb).trans h'.keep fun _ _ h => h
  refine ⟨hk, h'.disk.mono (fun i hi => ?_) (hW.grow hk.size)⟩
  have := hb.size
  rcases hi with hi | hi
  · exact .inl hi
  · exact .inr (by omega)
theorem Left.below_base (h : Left base S w w' p room u fs) (hW : Within base S w) : Below base w w' := h.keep.below hW
end

/-- Bytes that lie in no block of S. -/
def LiesOff (S : Nat → Prop) (w : World) (A : Option Addr) (xs : List Int) : Prop :=
  xs ≠ [] → ∃ b off, A = some ⟨b, off, none⟩ ∧ b < w.heap.size ∧ ¬ S b ∧ ∀ j (h : j < xs.length), w.cell? ⟨b, off + j, none⟩ = some (.int .u8 xs[j])
section
variable {S : Nat → Prop} {w w' : World} {A : Option Addr} {xs : List Int}
theorem LiesOff.lies (h : LiesOff S w A xs) : Lies .u8 w w.heap.size A xs := fun hn => by
  obtain ⟨b, off, e, hb, _, hc⟩ := h hn
  exact ⟨b, off, e, hb, hc⟩
theorem LiesOff.keep (h : LiesOff S w A xs) (hk : Keep S w w') : LiesOff (Grow S w w') w' A xs := fun hn => by
  obtain ⟨b, off, e, hb, hs, hc⟩ := h hn
  refine ⟨b, off, e, Nat.lt_of_lt_of_le hb hk.size, fun hg => ?_, fun j hj => ?_⟩
  · rcases hg with hg | hg
    · exact hs hg
    · omega
  · have := hc j hj
    unfold World.cell? at this ⊢
    show (match w'.heap[b]? with | some (.cells cs _ _) => _ | _ => _) = _
    rw [hk.block b hb hs]
    exact this
theorem LiesOff.mono {S' : Nat → Prop} (h : LiesOff S w A xs) (hs : ∀ i, i < w.heap.size → S' i → S i) : LiesOff S' w A xs := fun hn => by
  obtain ⟨b, off, e, hb, h1, hc⟩ := h hn
  exact ⟨b, off, e, hb, fun h2 => h1 (hs b hb h2), hc⟩
theorem Lies.off {base B : Nat} (h : Lies .u8 w B A xs) (hB : B ≤ base) (hW : Within base S w) : LiesOff S w A xs := fun hn => by
  obtain ⟨b, off, e, hb, hc⟩ := h hn
  exact ⟨b, off, e, by have := hW.1; omega, fun hs => by have := (hW.2 b hs).1; omega, hc⟩
end

/-! How much is used. -/
theorem usedM_cons (f : FileM) (l : List FileM) : usedM (f :: l) = f.b.length + usedM l := by simp [usedM]
theorem used_over {fs : List FileP} (hr : Rising (filesP fs)) {x y : FileP} (hx : x ∈ fs) (hn : y.f.name = x.f.name) : usedM (filesP (layP fs y)) + x.f.b.length = usedM (filesP fs) + y.f.b.length := by
  induction fs with
  | nil => cases hx
  | cons a t ih =>
    rw [filesP_cons] at hr
    obtain ⟨r1, r2⟩ := List.pairwise_cons.1 hr
    rcases List.mem_cons.1 hx with ex | hx2
    · rw [layP_eq (by rw [hn, ex]), filesP_cons, filesP_cons, usedM_cons, usedM_cons, ex]
      omega
    · have : ltS a.f.name y.f.name = true := by rw [hn]; exact r1 x.f (List.mem_map.2 ⟨x, hx2, rfl⟩)
      rw [layP_lt this, filesP_cons, filesP_cons, usedM_cons, usedM_cons]
      have := ih r2 hx2
      omega
theorem used_new {fs : List FileP} {y : FileP} (hn : ∀ x ∈ fs, x.f.name ≠ y.f.name) : usedM (filesP (layP fs y)) = usedM (filesP fs) + y.f.b.length := by
  induction fs with
  | nil => rw [layP_nil, filesP_cons, usedM_cons]; simp [filesP, usedM]
  | cons a t ih =>
    rcases ltS_tri a.f.name y.f.name with e | e | e
    · rw [layP_lt e, filesP_cons, filesP_cons, usedM_cons, usedM_cons, ih fun x hx => hn x (List.mem_cons_of_mem _ hx)]
      omega
    · exact absurd e (hn a (by simp))
    · rw [layP_gt e, filesP_cons, filesP_cons, usedM_cons, usedM_cons]
      omega
theorem used_del {fs : List FileP} (hr : Rising (filesP fs)) {x : FileP} (hx : x ∈ fs) : usedM (filesP (delP fs x.f.name)) + x.f.b.length = usedM (filesP fs) := by
  induction fs with
  | nil => cases hx
  | cons a t ih =>
    rw [filesP_cons] at hr
    obtain ⟨r1, r2⟩ := List.pairwise_cons.1 hr
    rcases List.mem_cons.1 hx with ex | hx2
    · rw [ex, delP_eq, filesP_cons, usedM_cons]
      omega
    · have : ltS a.f.name x.f.name = true := r1 x.f (List.mem_map.2 ⟨x, hx2, rfl⟩)
      rw [delP_lt this, filesP_cons, filesP_cons, usedM_cons, usedM_cons]
      have := ih r2 hx2
      omega
theorem used_ge {fs : List FileP} {x : FileP} (hx : x ∈ fs) : x.f.b.length ≤ usedM (filesP fs) := by
  induction fs with
  | nil => cases hx
  | cons a t ih =>
    rw [filesP_cons, usedM_cons]
    rcases List.mem_cons.1 hx with ex | hx2
    · rw [ex]; omega
    · have := ih hx2; omega
/-- A file that is laid over another is laid over it alone. -/
theorem layP_layP {fs : List FileP} (hr : Rising (filesP fs)) {x y : FileP} (hn : y.f.name = x.f.name) : layP (layP fs x) y = layP fs y := by
  induction fs with
  | nil => rw [layP_nil, layP_nil, layP_eq hn.symm]
  | cons a t ih =>
    rw [filesP_cons] at hr
    obtain ⟨r1, r2⟩ := List.pairwise_cons.1 hr
    rcases ltS_tri a.f.name x.f.name with e | e | e
    · rw [layP_lt e, layP_lt (by rw [hn]; exact e), layP_lt (by rw [hn]; exact e), ih r2]
    · rw [layP_eq e, layP_eq hn.symm, layP_eq (by rw [hn]; exact e)]
    · rw [layP_gt e, layP_eq hn.symm, layP_gt (by rw [hn]; exact e)]
theorem layP_length (fs : List FileP) (x : FileP) : (layP fs x).length ≤ fs.length + 1 := by
  have := layF_length (filesP fs) x.f
  rw [← filesP_layP, filesP_length, filesP_length] at this
  exact this
end Go.Proofs.YtefjbefmmmllbaaDoor
