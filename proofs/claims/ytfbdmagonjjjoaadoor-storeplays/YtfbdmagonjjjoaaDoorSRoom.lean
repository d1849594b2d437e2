/- What StoreRoom wants: three objects, an array of their sizes beside the store; numbers. -/
import Derived.Test.YtfbdmagonjjjoaaDoorSAlive
namespace Go.Proofs.YtfbdmagonjjjoaaDoor
open Go.RowKit Go.Maps

theorem ofName_cons (h : FileM) (t : List FileM) (n : ByteArray) : ofName (h :: t) n = if ltS h.name n = true then ofName t n else if h.name = n then h else ⟨n, [], 0⟩ := by
  unfold ofName
  rw [hasF_cons, findK_cons]
  by_cases e : ltS h.name n = true
  · simp only [e, if_true, List.getElem?_cons_succ]
  · rw [if_neg e, if_neg e, if_neg e]
    by_cases h1 : h.name = n
    · rw [if_pos h1, if_pos (decide_eq_true h1)]
      rfl
    · rw [if_neg h1, if_neg (by rw [decide_eq_false h1]; simp)]
theorem ofName_lay {fs : List FileP} (hr : Rising (filesP fs)) (x : FileP) (n : ByteArray) : ofName (filesP (layP fs x)) n = if n = x.f.name then x.f else ofName (filesP fs) n := by
  induction fs with
  | nil =>
    rw [layP_nil, filesP_cons, ofName_cons]
    by_cases e : n = x.f.name
    · subst e; rw [ltS_self]; simp
    · rw [if_neg e, if_neg (show ¬ x.f.name = n from fun h => e h.symm)]
      have : ofName (filesP []) n = ⟨n, [], 0⟩ := rfl
      rw [this]
      split <;> rfl
  | cons a t ih =>
    rw [filesP_cons] at hr
    obtain ⟨r1, r2⟩ := List.pairwise_cons.1 hr
    rcases ltS_tri a.f.name x.f.name with e | e | e
    · rw [layP_lt e, filesP_cons, filesP_cons, ofName_cons, ofName_cons, ih r2]
      by_cases h1 : ltS a.f.name n = true
      · rw [if_pos h1, if_pos h1]
      · rw [if_neg h1, if_neg h1, if_neg (fun h : n = x.f.name => h1 (by rw [h]; exact e))]
    · rw [layP_eq e, filesP_cons, filesP_cons, ofName_cons, ofName_cons, e]
      by_cases h1 : n = x.f.name
      · subst h1; rw [ltS_self]; simp
      · rw [if_neg h1, if_neg (show ¬ x.f.name = n from fun h => h1 h.symm), if_neg (show ¬ x.f.name = n from fun h => h1 h.symm)]
    · rw [layP_gt e, filesP_cons, filesP_cons, ofName_cons]
      by_cases h1 : n = x.f.name
      · subst h1; rw [ltS_self]; simp
      · rw [if_neg h1, if_neg (show ¬ x.f.name = n from fun h => h1 h.symm)]
        split
        · rfl
        · rename_i h2
          have h3 : ltS n x.f.name = true := by
            rcases ltS_tri x.f.name n with k | k | k
            · exact absurd k h2
            · exact absurd k.symm h1
            · exact k
          have h4 := ltS_trans h3 e
          rw [ofName_cons, if_neg (by rw [ltS_asymm h4]; simp), if_neg (fun h => ltS_ne h4 h.symm)]
def bare (l : List FileM) : List FileP := l.map fun f => ⟨f, .bool false⟩
theorem filesP_bare (l : List FileM) : filesP (bare l) = l := by
  unfold filesP bare
  rw [List.map_map]
  exact List.map_id l
theorem ofName_layF {l : List FileM} (hr : Rising l) (f : FileM) (n : ByteArray) : ofName (layF l f) n = if n = f.name then f else ofName l n := by
  have := ofName_lay (fs := bare l) (by rw [filesP_bare]; exact hr) ⟨f, .bool false⟩ n
  rw [filesP_layP, filesP_bare] at this
  exact this
theorem used_layF {l : List FileM} (hr : Rising l) (n : ByteArray) (ys : List Int) : (usedM l : Int) - ((ofName l n).b.length : Int) + (ys.length : Int) = ((usedM (layF l ⟨n, ys, 0⟩) : Nat) : Int) := by
  have := used_lay (fs := bare l) (by rw [filesP_bare]; exact hr) n ys (.bool false)
  rw [filesP_layP, filesP_bare] at this
  exact this
theorem getM_of {l : List FileM} {n : ByteArray} (hv : validS n = true) : ((getM l n).2 = 0 ∧ (getM l n).1.b.length = (ofName l n).b.length) ∨ ((getM l n).2 = 8 ∧ (ofName l n).b.length = 0) := by
  unfold getM ofName
  rw [if_neg (by rw [hv]; simp)]
  cases hh : hasF l n with
  | true => left; simp
  | false => right; simp

def nA : ByteArray := ⟨#[97]⟩
def nB : ByteArray := ⟨#[98]⟩
def nC : ByteArray := ⟨#[99]⟩
theorem v_A : validS nA = true := by decide +kernel
theorem v_B : validS nB = true := by decide +kernel
theorem v_C : validS nC = true := by decide +kernel
theorem ab_ne : nA ≠ nB := by decide
theorem ac_ne : nA ≠ nC := by decide
theorem bc_ne : nB ≠ nC := by decide
/-- Objects of three names, by their sizes. -/
structure Three (room : Int) (l : List FileM) (s : Nat × Nat × Nat) (i : Nat) : Prop where
  a : (ofName l nA).b.length = s.1
  b : (ofName l nB).b.length = s.2.1
  c : (ofName l nC).b.length = s.2.2
  used : usedM l = s.1 + s.2.1 + s.2.2
  many : l.length ≤ i
  fit : (usedM l : Int) ≤ room
theorem i64_and (y : Int) (k : Nat) (hk : k < 63) : bits .and .i64 y ((2 ^ k - 1 : Nat) : Int) = y % (2 ^ k : Nat) := by
  have hp : 2 ^ k ≤ 2 ^ 62 := Nat.pow_le_pow_right (by decide) (by omega)
  have hpos : 0 < 2 ^ k := Nat.pow_pos (by decide)
  have h7 : (BitVec.ofInt 64 ((2 ^ k - 1 : Nat) : Int)).toNat = 2 ^ k - 1 := by
    rw [BitVec.toNat_ofInt]
    omega
  show IntKind.i64.wrap ((BitVec.ofInt 64 y &&& BitVec.ofInt 64 ((2 ^ k - 1 : Nat) : Int)).toNat : Int) = _
  rw [BitVec.toNat_and, h7, Nat.and_two_pow_sub_one_eq_mod, BitVec.toNat_ofInt]
  have hm : (y % ((2 : Nat) ^ 64 : Nat)).toNat % 2 ^ k < 2 ^ k := Nat.mod_lt _ hpos
  rw [IntWalk.i64_in _ (by omega)]
  have hd : ((2 ^ k : Nat) : Int) ∣ ((2 ^ 64 : Nat) : Int) := Int.natCast_dvd_natCast.2 (Nat.pow_dvd_pow 2 (by omega))
  have h0 : 0 ≤ y % ((2 ^ 64 : Nat) : Int) := Int.emod_nonneg _ (by decide)
  have e : (((y % ((2 ^ 64 : Nat) : Int)).toNat % 2 ^ k : Nat) : Int) = (y % ((2 ^ 64 : Nat) : Int)) % ((2 ^ k : Nat) : Int) := by
    rw [Int.natCast_emod, Int.toNat_of_nonneg h0]
  rw [e, Int.emod_emod_of_dvd _ hd]
theorem and1023 (y : Int) : bits .and .i64 y 1023 = y % 1024 := i64_and y 10 (by decide)
theorem and127 (y : Int) : bits .and .i64 y 127 = y % 128 := i64_and y 7 (by decide)

def nils (n : Nat) : List Value := List.replicate n (.int .u8 0)
theorem make_nils (n : Nat) (h : n ≤ 1099511627776) (W : World) :
    (Instr.makeSlice 32 (.int .i64 (n : Int)) (.int .i64 (n : Int))).run Tryd.prog W = .ok (.slice (some ⟨W.heap.size, 0, none⟩) n n) (W.alloc (.cells (nils n).toArray 5)) := by
  obtain ⟨i0, hi0, hz0, hz1, hz2⟩ := info_parts byte_info
  have hr := run_make (P := Tryd.prog) W 32 5 i0 _ Tryd.underlying32 hi0 hz0 .i64 .i64 (n : Int) (n : Int) (by omega) (by omega) (by rw [hz2]; omega) (by omega)
  have e3 : (madeCells (Value.int .u8 0).cells n) = (nils n).toArray := by
    rw [← Array.toList_inj]
    exact toList_madeCells_one _ _
  rw [Int.toNat_natCast, hz1, Nat.mul_one, e3] at hr
  simpa using hr
theorem nils_map (n : Nat) : nils n = (List.replicate n (0 : Int)).map (Value.int .u8) := by unfold nils; rw [List.map_replicate]
theorem three_A {room : Int} {l : List FileM} {s0 s1 s2 i : Nat} (h : Three room l (s0, s1, s2) i) (hr : Rising l) (k : Nat) (hf : (s0 : Int) + (s1 : Int) + (s2 : Int) - (s0 : Int) + (k : Int) ≤ room) :
    putM room l nA (List.replicate k 0) = (layF l ⟨nA, List.replicate k 0, 0⟩, 0) ∧ Three room (layF l ⟨nA, List.replicate k 0, 0⟩) (k, s1, s2) (i + 1) := by
  have hu := used_layF hr nA (List.replicate k 0)
  have h1 : (ofName l nA).b.length = s0 := h.a
  have h2 : usedM l = s0 + s1 + s2 := h.used
  rw [List.length_replicate, h1, h2] at hu
  refine ⟨?_, by rw [ofName_layF hr, if_pos rfl]; exact List.length_replicate, by rw [ofName_layF hr, if_neg ab_ne.symm]; exact h.b, by rw [ofName_layF hr, if_neg ac_ne.symm]; exact h.c, ?_, Nat.le_trans (layF_length l _) (by have := h.many; omega), by rw [← hu]; omega⟩
  · unfold putM
    rw [if_neg (by rw [v_A]; simp), if_neg (by rw [List.length_replicate, h1, h2]; omega)]
  · dsimp only
    omega
theorem full_A {room : Int} {l : List FileM} {s0 s1 s2 i : Nat} (h : Three room l (s0, s1, s2) i) (k : Nat) (hf : ¬ (s0 : Int) + (s1 : Int) + (s2 : Int) - (s0 : Int) + (k : Int) ≤ room) : putM room l nA (List.replicate k 0) = (l, 7) := by
  have h1 : (ofName l nA).b.length = s0 := h.a
  have h2 : usedM l = s0 + s1 + s2 := h.used
  unfold putM
  rw [if_neg (by rw [v_A]; simp), if_pos (by rw [List.length_replicate, h1, h2]; omega)]
theorem three_B {room : Int} {l : List FileM} {s0 s1 s2 i : Nat} (h : Three room l (s0, s1, s2) i) (hr : Rising l) (k : Nat) (hf : (s0 : Int) + (s1 : Int) + (s2 : Int) - (s1 : Int) + (k : Int) ≤ room) :
    putM room l nB (List.replicate k 0) = (layF l ⟨nB, List.replicate k 0, 0⟩, 0) ∧ Three room (layF l ⟨nB, List.replicate k 0, 0⟩) (s0, k, s2) (i + 1) := by
  have hu := used_layF hr nB (List.replicate k 0)
  have h1 : (ofName l nB).b.length = s1 := h.b
  have h2 : usedM l = s0 + s1 + s2 := h.used
  rw [List.length_replicate, h1, h2] at hu
  refine ⟨?_, by rw [ofName_layF hr, if_neg ab_ne]; exact h.a, by rw [ofName_layF hr, if_pos rfl]; exact List.length_replicate, by rw [ofName_layF hr, if_neg bc_ne.symm]; exact h.c, ?_, Nat.le_trans (layF_length l _) (by have := h.many; omega), by rw [← hu]; omega⟩
  · unfold putM
    rw [if_neg (by rw [v_B]; simp), if_neg (by rw [List.length_replicate, h1, h2]; omega)]
  · dsimp only
    omega
theorem full_B {room : Int} {l : List FileM} {s0 s1 s2 i : Nat} (h : Three room l (s0, s1, s2) i) (k : Nat) (hf : ¬ (s0 : Int) + (s1 : Int) + (s2 : Int) - (s1 : Int) + (k : Int) ≤ room) : putM room l nB (List.replicate k 0) = (l, 7) := by
  have h1 : (ofName l nB).b.length = s1 := h.b
  have h2 : usedM l = s0 + s1 + s2 := h.used
  unfold putM
  rw [if_neg (by rw [v_B]; simp), if_pos (by rw [List.length_replicate, h1, h2]; omega)]
theorem three_C {room : Int} {l : List FileM} {s0 s1 s2 i : Nat} (h : Three room l (s0, s1, s2) i) (hr : Rising l) (k : Nat) (hf : (s0 : Int) + (s1 : Int) + (s2 : Int) - (s2 : Int) + (k : Int) ≤ room) :
    putM room l nC (List.replicate k 0) = (layF l ⟨nC, List.replicate k 0, 0⟩, 0) ∧ Three room (layF l ⟨nC, List.replicate k 0, 0⟩) (s0, s1, k) (i + 1) := by
  have hu := used_layF hr nC (List.replicate k 0)
  have h1 : (ofName l nC).b.length = s2 := h.c
  have h2 : usedM l = s0 + s1 + s2 := h.used
  rw [List.length_replicate, h1, h2] at hu
  refine ⟨?_, by rw [ofName_layF hr, if_neg ac_ne]; exact h.a, by rw [ofName_layF hr, if_neg bc_ne]; exact h.b, by rw [ofName_layF hr, if_pos rfl]; exact List.length_replicate, ?_, Nat.le_trans (layF_length l _) (by have := h.many; omega), by rw [← hu]; omega⟩
  · unfold putM
    rw [if_neg (by rw [v_C]; simp), if_neg (by rw [List.length_replicate, h1, h2]; omega)]
  · dsimp only
    omega
theorem full_C {room : Int} {l : List FileM} {s0 s1 s2 i : Nat} (h : Three room l (s0, s1, s2) i) (k : Nat) (hf : ¬ (s0 : Int) + (s1 : Int) + (s2 : Int) - (s2 : Int) + (k : Int) ≤ room) : putM room l nC (List.replicate k 0) = (l, 7) := by
  have h1 : (ofName l nC).b.length = s2 := h.c
  have h2 : usedM l = s0 + s1 + s2 := h.used
  unfold putM
  rw [if_neg (by rw [v_C]; simp), if_pos (by rw [List.length_replicate, h1, h2]; omega)]
theorem three_sum {room : Int} {l : List FileM} {s0 s1 s2 i : Nat} (h : Three room l (s0, s1, s2) i) (hr : room ≤ 500) : s0 + s1 + s2 ≤ 500 := by
  have h1 := h.used
  have h2 := h.fit
  rw [h1] at h2
  dsimp only at h2
  omega
theorem three_few {room : Int} {l : List FileM} {s : Nat × Nat × Nat} {i : Nat} (h : Three room l s i) (hi : i ≤ 30) : l.length < 1000000000 := by have := h.many; omega
theorem three_used {room : Int} {l : List FileM} {s : Nat × Nat × Nat} {i : Nat} (h : Three room l s i) (hr : room ≤ 500) : usedM l ≤ 549755813888 := by have := h.fit; omega
theorem three_more {room : Int} {l : List FileM} {s : Nat × Nat × Nat} {i : Nat} (h : Three room l s i) : Three room l s (i + 1) := ⟨h.a, h.b, h.c, h.used, Nat.le_trans h.many (Nat.le_succ i), h.fit⟩
theorem sum_wraps (s0 s1 s2 sj k : Nat) (h : s0 + s1 + s2 ≤ 500) (hj : sj ≤ 500) (hk : k ≤ 127) : wrap64 ((s0 : Int) + (s1 : Int)) = (s0 : Int) + (s1 : Int) ∧ wrap64 ((s0 : Int) + (s1 : Int) + (s2 : Int)) = (s0 : Int) + (s1 : Int) + (s2 : Int) ∧
    wrap64 ((s0 : Int) + (s1 : Int) + (s2 : Int) - (sj : Int)) = (s0 : Int) + (s1 : Int) + (s2 : Int) - (sj : Int) ∧ wrap64 ((s0 : Int) + (s1 : Int) + (s2 : Int) - (sj : Int) + (k : Int)) = (s0 : Int) + (s1 : Int) + (s2 : Int) - (sj : Int) + (k : Int) := by
  unfold wrap64
  omega
theorem cast_0 {k : Nat} (h : k = 0) : (k : Int) = 0 := by omega
theorem sum_wrap_c (s0 s1 s2 k : Nat) (h : s0 + s1 + s2 ≤ 500) (hk : k ≤ 127) : wrap64 ((s0 : Int) + (s1 : Int) + (k : Int)) = (s0 : Int) + (s1 : Int) + (k : Int) := by unfold wrap64; omega
theorem fit_c (s0 s1 s2 k : Nat) (a : Int) : decide ((s0 : Int) + (s1 : Int) + (s2 : Int) - (s2 : Int) + (k : Int) ≤ a) = decide ((s0 : Int) + (s1 : Int) + (k : Int) ≤ a) := by rw [Int.add_sub_cancel]
theorem abc_0 : (⟨#[97, 98, 99]⟩ : ByteArray).extract 0 1 = nA := by decide +kernel
theorem abc_1 : (⟨#[97, 98, 99]⟩ : ByteArray).extract 1 2 = nB := by decide +kernel
theorem abc_2 : (⟨#[97, 98, 99]⟩ : ByteArray).extract 2 3 = nC := by decide +kernel
/-- A store with no numbers of Fail, and an array of three numbers beside it. -/
def SR (w0 w : World) (p q : Nat) (room : Int) (l : List FileM) (s : Nat × Nat × Nat) (t : TypeId) : Prop :=
  ∃ S fs, filesP fs = l ∧ VStore w0.heap.size S w p room fs [] ∧ (Below w0.heap.size w0 w ∧ Tabs w ∧ 2 ≤ w0.heap.size ∧ l.length < 1000000000 ∧ usedM l ≤ 549755813888 ∧ ([] : List Int).length < 1000000 ∧ 0 ≤ room ∧ room ≤ 9223372036854775807) ∧ ¬ S q ∧ w0.heap.size ≤ q ∧ w.heap[q]? = some (.cells #[.int .i64 (s.1 : Int), .int .i64 (s.2.1 : Int), .int .i64 (s.2.2 : Int)] t (0, 0))
section
variable {w0 w : World} {p q : Nat} {room : Int} {l : List FileM} {s : Nat × Nat × Nat} {t : TypeId}
theorem SR.rising (h : SR w0 w p q room l s t) : Rising l := by
  obtain ⟨S, fs, rfl, hV, _⟩ := h
  exact hV.row.rising
theorem SR.since (h : SR w0 w p q room l s t) : Below w0.heap.size w0 w := by obtain ⟨_, _, _, _, ⟨h3, _⟩, _⟩ := h; exact h3
theorem SR.below {w' : World} (h : SR w0 w p q room l s t) (hb : Below w.heap.size w w') : SR w0 w' p q room l s t := by
  obtain ⟨S, fs, h1, h2, ⟨h3, h4, h5⟩, h6, h7, h8⟩ := h
  exact ⟨S, fs, h1, h2.below hb, ⟨h3.trans (hb.mono h3.size), h4.below hb, h5⟩, h6, h7, by rw [hb.block q (Array.getElem?_eq_some_iff.1 h8).1]; exact h8⟩
theorem SR.cells (h : SR w0 w p q room l s t) : w.cell? ⟨q, 0, none⟩ = some (.int .i64 (s.1 : Int)) ∧ w.cell? ⟨q, 1, none⟩ = some (.int .i64 (s.2.1 : Int)) ∧ w.cell? ⟨q, 2, none⟩ = some (.int .i64 (s.2.2 : Int)) ∧ ∀ j, w.frozen? ⟨q, j, none⟩ = false := by
  obtain ⟨S, fs, _, _, _, _, _, h8⟩ := h
  refine ⟨?_, ?_, ?_, fun j => by simp [World.frozen?, h8]⟩ <;> (unfold World.cell?; rw [h8]; rfl)
theorem sr_start (h : SX w0 w p room l [] none []) (t : TypeId) : SR w0 (w.alloc (.cells #[.int .i64 0, .int .i64 0, .int .i64 0] t)) p w.heap.size room l (0, 0, 0) t := by
  have hb : Below w.heap.size w (w.alloc (.cells #[.int .i64 0, .int .i64 0, .int .i64 0] t)) := (Below.refl _ _).alloc (Nat.le_refl _) _
  obtain ⟨S, fs, rfl, hV, ⟨h3, h4, h5⟩, _⟩ := h
  refine ⟨S, fs, rfl, hV.below hb, ⟨h3.trans (hb.mono h3.size), h4.below hb, h5⟩, fun hs => by have := (hV.within.2 _ hs).2; omega, h3.size, ?_⟩
  show (w.heap.push _)[w.heap.size]? = _
  simp
theorem SR.of_left {w' : World} {l' : List FileM} {S : Nat → Prop} {fs fs' : List FileP} (hV : VStore w0.heap.size S w p room fs []) (h : Below w0.heap.size w0 w ∧ Tabs w ∧ 2 ≤ w0.heap.size ∧ l.length < 1000000000 ∧ usedM l ≤ 549755813888 ∧ ([] : List Int).length < 1000000 ∧ 0 ≤ room ∧ room ≤ 9223372036854775807)
    (he : filesP fs' = l') (hL : Left w0.heap.size S w w' p room ((usedM (filesP fs') : Nat) : Int) fs' []) (h1 : l'.length < 1000000000) (h2 : usedM l' ≤ 549755813888) (hq : ¬ S q) (hq0 : w0.heap.size ≤ q) (hc : w.heap[q]? = some (.cells #[.int .i64 (s.1 : Int), .int .i64 (s.2.1 : Int), .int .i64 (s.2.2 : Int)] t (0, 0))) : SR w0 w' p q room l' s t := by
  obtain ⟨k1, k2, k3, _, _, k6, k7, k8⟩ := h
  have hb := hL.below_base hV.within
  have hql := (Array.getElem?_eq_some_iff.1 hc).1
  refine ⟨_, fs', he, hL.store, ⟨k1.trans hb, k2.past hb k3, k3, h1, h2, k6, k7, k8⟩, fun hg => ?_, hq0, by rw [hL.keep.block q hql hq]; exact hc⟩
  rcases hg with hg | hg
  · exact hq hg
  · omega
/-- Put of zeros that the walk has laid in the newest block. -/
theorem sr_put (h : SR w0 w p q room l s t) (n : ByteArray) (k : Nat) (o : Obj) (ho : o = .cells (nils k).toArray 5) (hn : n.size ≤ 281474976710656) (hk : k ≤ 127)
    (h1 : (putM room l n (List.replicate k 0)).1.length < 1000000000) (h2 : usedM (putM room l n (List.replicate k 0)).1 ≤ 549755813888) :
    Calls Tryd.prog 10 #[.pointer (some ⟨p, 0, none⟩), .string n, .slice (some ⟨w.heap.size, 0, none⟩) k k] (w.alloc o) fun e w' => e = .returned (.int .i64 (putM room l n (List.replicate k 0)).2) ∧ SR w0 w' p q room (putM room l n (List.replicate k 0)).1 s t := by
  rw [nils_map] at ho
  subst ho
  have hlk : (List.replicate k (0 : Int)).length = k := List.length_replicate
  have hb : Below w.heap.size w (w.alloc (.cells ((List.replicate k 0).map (Value.int .u8)).toArray 5)) := (Below.refl _ _).alloc (Nat.le_refl _) _
  obtain ⟨S, fs, rfl, hV0, hh0, hq, hq0, hc⟩ := h
  have hV := hV0.below hb
  have hh' : Below w0.heap.size w0 (w.alloc (.cells ((List.replicate k 0).map (Value.int .u8)).toArray 5)) ∧ Tabs (w.alloc (.cells ((List.replicate k 0).map (Value.int .u8)).toArray 5)) ∧ 2 ≤ w0.heap.size ∧ (filesP fs).length < 1000000000 ∧ usedM (filesP fs) ≤ 549755813888 ∧ ([] : List Int).length < 1000000 ∧ 0 ≤ room ∧ room ≤ 9223372036854775807 :=
    ⟨hh0.1.trans (hb.mono hh0.1.size), hh0.2.1.below hb, hh0.2.2⟩
  have hh := hh'
  obtain ⟨k1, k2, k3, k4, k5, k6, k7, k8⟩ := hh
  have hP := vPut_any hV n (some ⟨w.heap.size, 0, none⟩) (List.replicate k 0) k hn k2 k3 k7 k8 (by omega) (fun c hc => by rw [List.eq_of_mem_replicate hc]; omega) (fun _ => ⟨w.heap.size, 0, rfl, by simp, fun hs => by have := (hV0.within.2 _ hs).2; omega, fun j hj => by
      rw [Nat.zero_add, cell_new_marked]
      simp at hj
      simp [hj]⟩) (by simp) (by rw [hlk]; exact Nat.le_refl _) (by rw [hlk]; omega) (by rw [← filesP_length]; exact k4)
  rw [hlk] at hP
  refine hP.mono ?_
  rintro e w' ⟨rfl, fs', he, hL⟩
  have hql := (Array.getElem?_eq_some_iff.1 hc).1
  exact ⟨rfl, SR.of_left hV hh' he hL h1 h2 hq hq0 (by rw [hb.block q hql]; exact hc)⟩
theorem sr_get (h : SR w0 w p q room l s t) (n : ByteArray) (hn : n.size ≤ maxLen) :
    Calls Tryd.prog 13 #[.pointer (some ⟨p, 0, none⟩), .string n] w fun e w' => ∃ B c, e = .returned (.tuple #[.slice B (getM l n).1.b.length c, .int .i64 (getM l n).2]) ∧ SR w0 w' p q room l s t := by
  obtain ⟨S, fs, rfl, hV, hh, hq, hq0, hc⟩ := h
  have hh' := hh
  obtain ⟨k1, k2, k3, k4, k5, k6, k7, k8⟩ := hh
  refine (vGet_any hV n hn k2 k3 fun x hx => Nat.le_trans (used_ge hx) (by omega)).mono ?_
  rintro e w' ⟨v, w1, rfl, hL, ho, hb⟩
  obtain ⟨B, c, rfl, _⟩ := ho.parts
  exact ⟨B, c, rfl, (SR.of_left hV hh' rfl hL k4 k5 hq hq0 hc).below hb⟩
/-- A size written. -/
theorem sr_set (h : SR w0 w p q room l s t) (j : Nat) (k : Nat) (s' : Nat × Nat × Nat) (hs : (#[.int .i64 (s.1 : Int), .int .i64 (s.2.1 : Int), .int .i64 (s.2.2 : Int)] : Array Value).setIfInBounds j (.int .i64 (k : Int)) = #[.int .i64 (s'.1 : Int), .int .i64 (s'.2.1 : Int), .int .i64 (s'.2.2 : Int)]) :
    SR w0 (w.setCell ⟨q, j, none⟩ (.int .i64 (k : Int))) p q room l s' t := by
  obtain ⟨S, fs, rfl, hV, ⟨k1, k2, k3⟩, hq, hq0, hc⟩ := h
  have hb : Below w0.heap.size w0 (w.setCell ⟨q, j, none⟩ (.int .i64 (k : Int))) := k1.setCell (p := ⟨q, j, none⟩) hq0 _
  have hb2 : Below w0.heap.size w (w.setCell ⟨q, j, none⟩ (.int .i64 (k : Int))) := (Below.refl _ _).setCell (p := ⟨q, j, none⟩) hq0 _
  refine ⟨S, fs, rfl, hV.keep' (fun _ h => h) (hV.within.more (by simp)) (fun i hi _ => heap_setCell_other _ _ _ _ fun e => hq (by rw [← show i = q from e]; exact hi)), ⟨hb, k2.past hb2 k3.1, k3⟩, hq, hq0, ?_⟩
  rw [Go.heap_setCell_same w q j _ _ _ hc, hs]
end
end Go.Proofs.YtfbdmagonjjjoaaDoor
