/- A contract of the program's own Crash. -/
import Derived.Test.YtefjbefmmmllbaaDoorVDCut
import Derived.Test.YtefjbefmmmllbaaDoorVDList
namespace Go.Proofs.YtefjbefmmmllbaaDoor
open Go.RowKit Go.Maps

theorem rise_at {l : List FileM} (hr : Rising l) (i : Nat) (h : i < l.length) : findK l l[i].name = i :=
  findK_at l _ i (by omega) (fun j hj hji => List.pairwise_iff_getElem.1 hr j i hj h hji) (fun _ => ltS_self _)
theorem rise_has {l : List FileM} (hr : Rising l) (i : Nat) (h : i < l.length) : hasF l l[i].name = true := hasF_mem hr (List.getElem_mem h)
theorem lay_at {fs : List FileP} (hr : Rising (filesP fs)) (i : Nat) (h : i < fs.length) (y : FileP) (hn : y.f.name = fs[i].f.name) : filesP (layP fs y) = (filesP fs).take i ++ y.f :: (filesP fs).drop (i + 1) := by
  have h1 := rise_at hr i (by rw [filesP_length]; exact h)
  have h2 := rise_has hr i (by rw [filesP_length]; exact h)
  rw [filesP_at fs i h] at h1 h2
  rw [filesP_layP]
  unfold layF tailK
  rw [hn, h1, h2]
  rfl
/-- How far a crash has come: the first i files are done, the numbers ks are left. -/
structure CrashAt (L : List FileM) (keep : List Int) (fs : List FileP) (i : Nat) (ks : List Int) : Prop where
  all : crashM L keep = (filesP fs).take i ++ crashM (L.drop i) ks
  rest : (filesP fs).drop i = L.drop i
  len : fs.length = L.length
section
variable {L : List FileM} {keep ks : List Int} {fs : List FileP} {i : Nat}
theorem CrashAt.file (h : CrashAt L keep fs i ks) (hi : i < fs.length) : L.drop i = fs[i].f :: L.drop (i + 1) ∧ (filesP fs).take (i + 1) = (filesP fs).take i ++ [fs[i].f] := by
  have hl : i < (filesP fs).length := by rw [filesP_length]; exact hi
  have e := filesP_at fs i hi
  constructor
  · have e5 := congrArg (List.drop 1) h.rest
    rw [List.drop_drop, List.drop_drop] at e5
    rw [← h.rest, List.drop_eq_getElem_cons hl, e, e5]
  · rw [List.take_succ_eq_append_getElem hl, e]
theorem CrashAt.skip (h : CrashAt L keep fs i ks) (hi : i < fs.length) (h0 : fs[i].f.loose = 0) : CrashAt L keep fs (i + 1) ks := by
  obtain ⟨e1, e2⟩ := h.file hi
  refine ⟨?_, ?_, h.len⟩
  · rw [h.all, e1, crashM, if_pos h0, e2, List.append_assoc]
    rfl
  · rw [← List.drop_drop (i := 1), h.rest, List.drop_drop]
theorem CrashAt.cut (hr : Rising (filesP fs)) (h : CrashAt L keep fs i ks) (hi : i < fs.length) (h0 : fs[i].f.loose ≠ 0) (y : FileP) (hy : y.f = crashF fs[i].f (ks.headD 0)) : CrashAt L keep (layP fs y) (i + 1) ks.tail := by
  obtain ⟨e1, e2⟩ := h.file hi
  have e3 := lay_at hr i hi y (by rw [hy]; rfl)
  have hti : ((filesP fs).take i).length = i := by rw [List.length_take, filesP_length]; omega
  refine ⟨?_, ?_, ?_⟩
  · have e4 : ∀ P B : List FileM, P.length = i → (P ++ y.f :: B).take (i + 1) = P ++ [y.f] := fun P B hP => by
      rw [List.take_append, hP, List.take_of_length_le (by omega), show i + 1 - i = 1 by omega]
      rfl
    rw [h.all, e1, crashM, if_neg h0, e3, e4 _ _ hti, List.append_assoc, hy]
    rfl
  · rw [e3, List.drop_append, hti, List.drop_of_length_le (by rw [hti]; omega), show i + 1 - i = 1 by omega]
    show [] ++ (filesP fs).drop (i + 1) = _
    rw [List.nil_append, ← List.drop_drop (i := 1), h.rest, List.drop_drop]
  · have := congrArg List.length e3
    rw [filesP_length, List.length_append, hti, List.length_cons, List.length_drop, filesP_length] at this
    have := h.len
    omega
theorem CrashAt.done (h : CrashAt L keep fs i ks) (hi : fs.length ≤ i) : filesP fs = crashM L keep := by
  have hl := h.len
  rw [h.all, List.drop_of_length_le (by omega), crashM, List.append_nil, List.take_of_length_le (by rw [filesP_length]; exact hi)]
end

/-- Numbers that lie in no block of S. -/
def LiesI (S : Nat → Prop) (w : World) (A : Option Addr) (xs : List Int) : Prop :=
  xs ≠ [] → ∃ b off, A = some ⟨b, off, none⟩ ∧ b < w.heap.size ∧ ¬ S b ∧ ∀ j (h : j < xs.length), w.cell? ⟨b, off + j, none⟩ = some (.int .i64 xs[j])
section
variable {S : Nat → Prop} {w w' : World} {A : Option Addr} {xs : List Int}
theorem LiesI.keep (h : LiesI S w A xs) (hk : Keep S w w') : LiesI S w' A xs := fun hn => by
  obtain ⟨b, off, e, hb, hs, hc⟩ := h hn
  refine ⟨b, off, e, Nat.lt_of_lt_of_le hb hk.size, hs, fun j hj => ?_⟩
  have := hc j hj
  unfold World.cell? at this ⊢
  show (match w'.heap[b]? with | some (.cells cs _ _) => _ | _ => _) = _
  rw [hk.block b hb hs]
  exact this
theorem LiesI.cut (h : LiesI S w A xs) {cap : Nat} (hc : xs.length ≤ cap) : LiesI S w (if cap = 1 then A else A.map (·.add 1)) xs.tail := fun hn => by
  have hlt : 1 < xs.length := by
    cases xs with
    | nil => exact absurd rfl hn
    | cons a t =>
      cases t with
      | nil => exact absurd rfl hn
      | cons b t => simp
  obtain ⟨b, off, rfl, hb, hs, hcell⟩ := h (by rintro rfl; simp at hlt)
  rw [if_neg (by omega)]
  refine ⟨b, off + 1, by simp [add_lit], hb, hs, fun j hj => ?_⟩
  have hj' : 1 + j < xs.length := by simp at hj; omega
  have := hcell (1 + j) hj'
  rw [Nat.add_assoc, this]
  simp [Nat.add_comm]
theorem LiesI.of {base B : Nat} (h : Lies .i64 w B A xs) (hB : B ≤ base) (hW : Within base S w) : LiesI S w A xs := fun hn => by
  obtain ⟨b, off, e, hb, hc⟩ := h hn
  exact ⟨b, off, e, by have := hW.1; omega, fun hs => by have := (hW.2 b hs).1; omega, hc⟩
end

section
variable {base : Nat} {S : Nat → Prop} {w : World} {p : Nat} {room u : Int} {fs : List FileP}
/-- The row of names that List made, and that nothing of the disk touches. -/
structure NameRow (S : Nat → Prop) (w : World) (b : Nat) (ns : List ByteArray) : Prop where
  lt : b < w.heap.size
  off : ¬ S b
  cell : ∀ i (h : i < ns.length), w.cell? ⟨b, i, none⟩ = some (.string ns[i])
theorem NameRow.keep {w' : World} {b : Nat} {ns : List ByteArray} (h : NameRow S w b ns) (hk : Keep S w w') : NameRow S w' b ns := by
  refine ⟨Nat.lt_of_lt_of_le h.lt hk.size, h.off, fun i hi => ?_⟩
  have := h.cell i hi
  unfold World.cell? at this ⊢
  show (match w'.heap[b]? with | some (.cells cs _ _) => _ | _ => _) = _
  rw [hk.block b h.lt h.off]
  exact this
theorem nameRow_of {B : Nat} {v : Value} {ns : List ByteArray} (h : w.ownsRow B 9 1 v ns.length (ns.map Value.string)) (hS : ∀ i, S i → i < B) : ∃ A c, v = .slice A ns.length c ∧ (0 < ns.length → ∃ b, A = some ⟨b, 0, none⟩ ∧ NameRow S w b ns) := by
  rcases h.2 with ⟨rfl, h0⟩ | ⟨g, cap, cur, rfl, hbg, hg, hc, hm, _⟩
  · exact ⟨none, 0, by rw [h0], fun h => by omega⟩
  · refine ⟨_, _, rfl, fun _ => ⟨g, rfl, (Array.getElem?_eq_some_iff.1 hg).1, fun hs => by have := hS g hs; omega, fun i hi => ?_⟩⟩
    have := World.ownsRow.cells (g := g) h rfl i (.string ns[i]) (by simp [hi])
    rw [add_lit, Nat.zero_add] at this
    exact this
/-- The relation of Crash's loop. -/
structure Crashing (base : Nat) (S : Nat → Prop) (w : World) (p : Nat) (room : Int) (L : List FileM) (keep : List Int) (wr : World) (i : Nat) (fs : List FileP) (ks : List Int) (A : Option Addr) (c : Nat) : Prop where
  left : Left base S w wr p room ((usedM (filesP fs) : Nat) : Int) fs
  at_ : CrashAt L keep fs i ks
  names : fs.map (fun x => x.f.name) = L.map FileM.name
  lies : LiesI S w A ks
  cap : ks.length ≤ c
  capm : c ≤ maxLen
  used : usedM (filesP fs) ≤ 1099511627776

section
variable {L : List FileM} {keep ks : List Int} {wr : World} {i : Nat} {A : Option Addr} {c : Nat}
theorem Crashing.drewN (h : Crashing base S w p room L keep wr i fs ks A c) (m : Nat) : Crashing base S w p room L keep (wr.drewN m) i fs ks A c :=
  ⟨⟨h.left.keep.drewN m, (h.left.disk.below (below_drewN (Below.refl _ _) m)).mono (fun _ h => h) (h.left.disk.within.more (Nat.le_refl _))⟩, h.at_, h.names, h.lies, h.cap, h.capm, h.used⟩
theorem Crashing.file (h : Crashing base S w p room L keep wr i fs ks A c) (hi : i < fs.length) : VFile base (Grow S w wr) wr fs[i] := h.left.disk.row.file _ (List.getElem_mem hi)
theorem Crashing.look (h : Crashing base S w p room L keep wr i fs ks A c) (hi : i < fs.length) : ∃ mo, wr.cell? ⟨p, 2, none⟩ = some (.map mo) ∧ (Instr.lookup 42 (.map mo) (.string fs[i].f.name) false).run Tryd.prog wr = .ok (.pointer (some ⟨fs[i].g, 0, none⟩)) wr := by
  obtain ⟨mo, _, _, c2, hm⟩ := h.left.disk.cells
  exact ⟨mo, c2, (hm.look h.left.disk.row.rising (h.file hi).wf.1).1 _ (List.getElem_mem hi) rfl⟩
theorem Crashing.skip (h : Crashing base S w p room L keep wr i fs ks A c) (hi : i < fs.length) (h0 : fs[i].f.loose = 0) : Crashing base S w p room L keep wr (i + 1) fs ks A c :=
  ⟨h.left, h.at_.skip hi h0, h.names, h.lies, h.cap, h.capm, h.used⟩
theorem crash_keep (h : Crashing base S w p room L keep wr i fs ks A c) (hW : Within base S w) (hi : i < fs.length) (h0 : fs[i].f.loose ≠ 0) (n : Nat) (hn : n = fs[i].f.b.length - fs[i].f.loose + (min (max (ks.headD 0) 0) (fs[i].f.loose : Int)).toNat)
    (A' : Option Addr) (c' : Nat) (hl : LiesI S w A' ks.tail) (hc : ks.tail.length ≤ c') (hcm : c' ≤ maxLen) :
    Calls Tryd.prog 35 #[.pointer (some ⟨p, 0, none⟩), .pointer (some ⟨fs[i].g, 0, none⟩), .int .i64 (n : Int)] wr fun e w' => e = .returned (.tuple #[]) ∧ ∃ fs', Crashing base S w p room L keep w' (i + 1) fs' ks.tail A' c' := by
  have hf := h.file hi
  have hlo := hf.wf.2.2
  have hge := used_ge (List.getElem_mem hi)
  have hu := h.used
  have hr := h.left.disk.row.rising
  have hnl : n ≤ fs[i].f.b.length := by omega
  refine (vkeep_any h.left.disk (List.getElem_mem hi) n hnl (by omega) (by omega) (by omega)).mono ?_
  rintro e w' ⟨rfl, hk, v, hV⟩
  have hyf : (kept fs[i] n v).f = crashF fs[i].f (ks.headD 0) := by
    show (⟨_, _, _⟩ : FileM) = ⟨_, _, _⟩
    rw [hn]
  have e1 := used_over hr (y := kept fs[i] n v) (List.getElem_mem hi) rfl
  have e2 : (kept fs[i] n v).f.b.length = n := by show (fs[i].f.b.take n).length = n; rw [List.length_take]; omega
  have e3 : (usedM (filesP (layP fs (kept fs[i] n v))) : Int) = (usedM (filesP fs) : Int) - ((fs[i].f.b.length : Int) - (n : Int)) := by omega
  have e4 := lay_at hr i hi (kept fs[i] n v) rfl
  refine ⟨rfl, layP fs (kept fs[i] n v), ⟨?_, h.at_.cut hr hi h0 _ hyf, ?_, hl, hc, hcm, by omega⟩⟩
  · rw [e3]
    exact Left.trans hW h.left.keep ⟨hk, hV⟩
  · have e5 : (layP fs (kept fs[i] n v)).map (fun x => x.f.name) = (filesP (layP fs (kept fs[i] n v))).map FileM.name := by unfold filesP; rw [List.map_map]; rfl
    have e6 : fs.map (fun x => x.f.name) = (filesP fs).map FileM.name := by unfold filesP; rw [List.map_map]; rfl
    rw [e5, e4, ← h.names, e6]
    have hl2 : i < (filesP fs).length := by rw [filesP_length]; exact hi
    conv => rhs; rw [← List.take_append_drop i (filesP fs), List.drop_eq_getElem_cons hl2]
    rw [List.map_append, List.map_append, List.map_cons, List.map_cons, filesP_at fs i hi]
    rfl
end
end
end Go.Proofs.YtefjbefmmmllbaaDoor
