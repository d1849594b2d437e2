/- One disk over a row of calls, as the statements' texts make them; the document's example. -/
import Derived.Test.YtefjbefmmmllbaaDoorVDRename
import Derived.Test.YtefjbefmmmllbaaDoorVDCrashed
import Derived.Lib.SlBytesConst
namespace Go.Proofs.YtefjbefmmmllbaaDoor
open Go.RowKit Go.Maps

/-- A disk that was made since the world w0: its room and its files. -/
def DW (w0 w : World) (p : Nat) (room : Int) (l : List FileM) : Prop :=
  ∃ S fs, filesP fs = l ∧ VDisk w0.heap.size S w p room fs ∧ Below w0.heap.size w0 w ∧ Tabs w ∧ 2 ≤ w0.heap.size ∧ l.length < 1000000000 ∧ usedM l ≤ 549755813888 ∧ 0 ≤ room ∧ room ≤ 9223372036854775807
section
variable {w0 w : World} {p : Nat} {room : Int} {l : List FileM}
theorem DW.below {w' : World} (h : DW w0 w p room l) (hb : Below w.heap.size w w') : DW w0 w' p room l := by
  obtain ⟨S, fs, h1, h2, h3, h4, h5⟩ := h
  exact ⟨S, fs, h1, h2.below hb, h3.trans (hb.mono h3.size), h4.below hb, h5⟩
theorem DW.drewN (h : DW w0 w p room l) (n : Nat) : DW w0 (w.drewN n) p room l := h.below (below_drewN (Below.refl _ _) n)
theorem DW.since (h : DW w0 w p room l) : Below w0.heap.size w0 w := by obtain ⟨_, _, _, _, h3, _⟩ := h; exact h3
theorem DW.tabs (h : DW w0 w p room l) : Tabs w := by obtain ⟨_, _, _, _, _, h4, _⟩ := h; exact h4
theorem DW.of_left {w' : World} {l' : List FileM} {S : Nat → Prop} {fs' : List FileP} (h : DW w0 w p room l) (hW : Within w0.heap.size S w) (he : filesP fs' = l') (hL : Left w0.heap.size S w w' p room ((usedM (filesP fs') : Nat) : Int) fs') (h1 : l'.length < 1000000000) (h2 : usedM l' ≤ 549755813888) : DW w0 w' p room l' := by
  obtain ⟨_, _, _, _, h3, h4, h5, _, _, h6⟩ := h
  have hb := hL.below_base hW
  exact ⟨_, fs', he, hL.disk, h3.trans hb, h4.past hb h5, h5, h1, h2, h6⟩
theorem dw_new (w0 w : World) (hb : Below w0.heap.size w0 w) (hT : Tabs w0) (room : Int) (h0 : 0 ≤ room) (h1 : room ≤ 9223372036854775807) :
    Calls Tryd.prog 6 #[.int .i64 room] w fun e w' => e = .returned (.pointer (some ⟨w.heap.size, 0, none⟩)) ∧ DW w0 w' w.heap.size room [] := by
  refine (vnew_any room w).mono ?_
  rintro e w' ⟨rfl, rfl⟩
  rw [Int.max_eq_left h0]
  have hb2 : Below w0.heap.size w0 (w.alloc (.cells (diskCells room 0 none) 44)) := hb.alloc hb.size _
  exact ⟨rfl, _, [], rfl, vnew_disk w0.heap.size w room hb.size, hb2, hT.below hb2, hT.two, by simp, by simp [usedM], h0, h1⟩
theorem dw_append (h : DW w0 w p room l) (n : ByteArray) (A : Option Addr) (ys : List Int) (c : Nat) (hn : n.size ≤ 281474976710656) (hl : Lies .u8 w w0.heap.size A ys) (hc : ys.length ≤ c) (hA : A = none → c = 0) (hy : IsBytes ys) (hyl : ys.length ≤ 549755813888)
    (h1 : (appendM room l n ys).1.length < 1000000000) (h2 : usedM (appendM room l n ys).1 ≤ 549755813888) :
    Calls Tryd.prog 8 #[.pointer (some ⟨p, 0, none⟩), .string n, .slice A ys.length c] w fun e w' => e = .returned (.int .i64 (appendM room l n ys).2) ∧ DW w0 w' p room (appendM room l n ys).1 := by
  have h' := h
  obtain ⟨S, fs, rfl, hV, h3, h4, h5, h6, h7, h8, h9⟩ := h
  refine (vappend_any hV n A ys c hn h4 h8 h9 h7 (by rw [← filesP_length]; exact h6) (hl.off (Nat.le_refl _) hV.within) hc hA hy hyl).mono ?_
  rintro e w' ⟨rfl, fs', he, hL⟩
  exact ⟨rfl, h'.of_left hV.within he hL h1 h2⟩
theorem dw_sync (h : DW w0 w p room l) (n : ByteArray) (hn : n.size ≤ maxLen) (h1 : (syncM l n).1.length < 1000000000) (h2 : usedM (syncM l n).1 ≤ 549755813888) :
    Calls Tryd.prog 17 #[.pointer (some ⟨p, 0, none⟩), .string n] w fun e w' => e = .returned (.int .i64 (syncM l n).2) ∧ DW w0 w' p room (syncM l n).1 := by
  have h' := h
  obtain ⟨S, fs, rfl, hV, h3, h4, h5, h6, h7, h8, h9⟩ := h
  refine (vsync_any hV n hn h4).mono ?_
  rintro e w' ⟨rfl, fs', he, hL⟩
  exact ⟨rfl, h'.of_left hV.within he hL h1 h2⟩
theorem dw_cut (h : DW w0 w p room l) (n : ByteArray) (k : Int) (hn : n.size ≤ maxLen) (h1 : (cutM l n k).1.length < 1000000000) (h2 : usedM (cutM l n k).1 ≤ 549755813888) :
    Calls Tryd.prog 19 #[.pointer (some ⟨p, 0, none⟩), .string n, .int .i64 k] w fun e w' => e = .returned (.int .i64 (cutM l n k).2) ∧ DW w0 w' p room (cutM l n k).1 := by
  have h' := h
  obtain ⟨S, fs, rfl, hV, h3, h4, h5, h6, h7, h8, h9⟩ := h
  refine (vcut_any hV n k hn h4 (by omega)).mono ?_
  rintro e w' ⟨rfl, fs', he, hL⟩
  exact ⟨rfl, h'.of_left hV.within he hL h1 h2⟩
theorem dw_remove (h : DW w0 w p room l) (n : ByteArray) (hn : n.size ≤ maxLen) (h1 : (removeM l n).1.length < 1000000000) (h2 : usedM (removeM l n).1 ≤ 549755813888) :
    Calls Tryd.prog 23 #[.pointer (some ⟨p, 0, none⟩), .string n] w fun e w' => e = .returned (.int .i64 (removeM l n).2) ∧ DW w0 w' p room (removeM l n).1 := by
  have h' := h
  obtain ⟨S, fs, rfl, hV, h3, h4, h5, h6, h7, h8, h9⟩ := h
  refine (vremove_any hV n hn h4 (by omega)).mono ?_
  rintro e w' ⟨rfl, fs', he, hL⟩
  exact ⟨rfl, h'.of_left hV.within he hL h1 h2⟩
theorem dw_rename (h : DW w0 w p room l) (a b : ByteArray) (ha : a.size ≤ 281474976710656) (hb : b.size ≤ 281474976710656) (h1 : (renameM l a b).1.length < 1000000000) (h2 : usedM (renameM l a b).1 ≤ 549755813888) :
    Calls Tryd.prog 21 #[.pointer (some ⟨p, 0, none⟩), .string a, .string b] w fun e w' => e = .returned (.int .i64 (renameM l a b).2) ∧ DW w0 w' p room (renameM l a b).1 := by
  have h' := h
  obtain ⟨S, fs, rfl, hV, h3, h4, h5, h6, h7, h8, h9⟩ := h
  refine (vrename_any hV a b ha hb h4 (by omega) (by rw [← filesP_length]; exact h6)).mono ?_
  rintro e w' ⟨rfl, fs', he, hL⟩
  exact ⟨rfl, h'.of_left hV.within he hL h1 h2⟩
theorem dw_crash (h : DW w0 w p room l) (A : Option Addr) (keep : List Int) (c : Nat) (hl : ∀ S, Within w0.heap.size S w → LiesI S w A keep) (hc : keep.length ≤ c) (hcm : c ≤ maxLen) (h1 : (crashM l keep).length < 1000000000) (h2 : usedM (crashM l keep) ≤ 549755813888) :
    Calls Tryd.prog 11 #[.pointer (some ⟨p, 0, none⟩), .slice A keep.length c] w fun e w' => e = .returned (.tuple #[]) ∧ DW w0 w' p room (crashM l keep) := by
  have h' := h
  obtain ⟨S, fs, rfl, hV, h3, h4, h5, h6, h7, h8, h9⟩ := h
  refine (vcrash_any hV A keep c (hl S hV.within) hc hcm (by rw [← filesP_length]; exact h6) (by omega)).mono ?_
  rintro e w' ⟨rfl, fs', he, hL⟩
  exact ⟨rfl, h'.of_left hV.within he hL h1 h2⟩
/-- A crash by numbers that the walk has laid in the newest block. -/
theorem dw_crash_new (h : DW w0 w p room l) (keep : List Int) (k : Nat) (hk : keep.length = k) (o : Obj) (ho : o = .cells (keep.map (Value.int .i64)).toArray 3) (hcm : k ≤ maxLen) (h1 : (crashM l keep).length < 1000000000) (h2 : usedM (crashM l keep) ≤ 549755813888) :
    Calls Tryd.prog 11 #[.pointer (some ⟨p, 0, none⟩), .slice (some ⟨w.heap.size, 0, none⟩) k k] (w.alloc o) fun e w' => e = .returned (.tuple #[]) ∧ DW w0 w' p room (crashM l keep) := by
  subst hk ho
  have hb : Below w.heap.size w (w.alloc (.cells (keep.map (Value.int .i64)).toArray 3)) := (Below.refl _ _).alloc (Nat.le_refl _) _
  have h' := h.below hb
  obtain ⟨S, fs, rfl, hV, h3, h4, h5, h6, h7, h8, h9⟩ := h
  refine (vcrash_any (hV.below hb) (some ⟨w.heap.size, 0, none⟩) keep keep.length ?_ (Nat.le_refl _) hcm (by rw [← filesP_length]; exact h6) (by omega)).mono ?_
  · intro _
    refine ⟨w.heap.size, 0, rfl, by simp, fun hs => by have := (hV.within.2 _ hs).2; omega, fun j hj => ?_⟩
    have e1 : (w.alloc (.cells (keep.map (Value.int .i64)).toArray 3)).heap[w.heap.size]? = some (.cells (keep.map (Value.int .i64)).toArray 3) := by
      show (w.heap.push _)[w.heap.size]? = _
      simp
    unfold World.cell?
    rw [e1]
    simp [hj]
  · rintro e w' ⟨rfl, fs', he, hL⟩
    exact ⟨rfl, h'.of_left (hV.within.more hb.size) he hL h1 h2⟩
theorem dw_read (h : DW w0 w p room l) (n : ByteArray) (hn : n.size ≤ maxLen) :
    Calls Tryd.prog 12 #[.pointer (some ⟨p, 0, none⟩), .string n] w fun e w' => ∃ v, e = .returned (.tuple #[v, .int .i64 (getM l n).2]) ∧ Own .u8 5 w' w.heap.size v (getM l n).1.b ∧ Below w.heap.size w w' ∧ DW w0 w' p room l := by
  have h' := h
  obtain ⟨S, fs, rfl, hV, h3, h4, h5, h6, h7, h8, h9⟩ := h
  refine (vread_any hV n hn h4 fun x hx => Nat.le_trans (used_ge hx) (by omega)).mono ?_
  rintro e w' ⟨v, rfl, ho, hb⟩
  exact ⟨v, rfl, ho, hb, h'.below hb⟩
theorem dw_loose (h : DW w0 w p room l) (n : ByteArray) (hn : n.size ≤ maxLen) :
    Calls Tryd.prog 27 #[.pointer (some ⟨p, 0, none⟩), .string n] w fun e w' => e = .returned (.int .i64 ((getM l n).1.loose : Int)) ∧ Below w.heap.size w w' ∧ DW w0 w' p room l := by
  have h' := h
  obtain ⟨S, fs, rfl, hV, h3, h4, h5, h6, h7, h8, h9⟩ := h
  refine (vloose_any hV n hn h4).mono ?_
  rintro e w' ⟨rfl, hb⟩
  exact ⟨rfl, hb, h'.below hb⟩
theorem dw_used (h : DW w0 w p room l) : Calls Tryd.prog 29 #[.pointer (some ⟨p, 0, none⟩)] w fun e w' => e = .returned (.int .i64 ((usedM l : Nat) : Int)) ∧ w' = w := by
  obtain ⟨S, fs, rfl, hV, _⟩ := h
  exact (vused_any hV).mono fun e w' h => ⟨h.1, h.2.symm⟩
theorem dw_list (h : DW w0 w p room l) : Calls Tryd.prog 32 #[.pointer (some ⟨p, 0, none⟩)] w fun e w' => ∃ v, e = .returned v ∧ w'.ownsRow w.heap.size 9 1 v l.length ((l.map FileM.name).map Value.string) ∧ Below w.heap.size w w' ∧ DW w0 w' p room l := by
  have h' := h
  obtain ⟨S, fs, rfl, hV, h3, h4, h5, h6, h7, h8, h9⟩ := h
  refine (vlist_any hV (by rw [← filesP_length]; exact h6)).mono ?_
  rintro e w' ⟨v, rfl, ho, hb⟩
  refine ⟨v, rfl, ?_, hb, h'.below hb⟩
  have e1 : (filesP fs).map FileM.name = fs.map fun x => x.f.name := by unfold filesP; rw [List.map_map]; rfl
  rw [e1, filesP_length]
  rw [List.length_map] at ho
  exact ho
end

/-! One file alone. -/
section
variable {n : ByteArray} {b : List Int} {lo : Nat} {room : Int}
theorem find_self (f : FileM) (t : List FileM) : findK (f :: t) f.name = 0 := by rw [findK_cons, ltS_self]; simp
theorem has_self (f : FileM) (t : List FileM) : hasF (f :: t) f.name = true := by rw [hasF_cons, ltS_self]; simp
theorem lay_self (f g : FileM) (t : List FileM) (h : g.name = f.name) : layF (f :: t) g = g :: t := by
  unfold layF tailK
  rw [h, find_self, has_self]
  simp
theorem get_self (f : FileM) (t : List FileM) (h : validS f.name = true) : getM (f :: t) f.name = (f, 0) := by
  unfold getM
  rw [if_neg (by rw [h]; simp), if_pos (has_self f t), find_self]
  rfl
theorem append_none (hv : validS n = true) (hr : (b.length : Int) ≤ room) : appendM room [] n b = ([⟨n, b, b.length⟩], 0) := by
  unfold appendM
  rw [if_neg (by rw [hv]; simp), if_neg (by simp [usedM]; omega)]
  simp [ofName, hasF, layF, findK, tailK]
theorem append_self (hv : validS n = true) {ys : List Int} (hr : (b.length : Int) + (ys.length : Int) ≤ room) : appendM room [⟨n, b, lo⟩] n ys = ([⟨n, b ++ ys, lo + ys.length⟩], 0) := by
  have e1 : ofName [⟨n, b, lo⟩] n = ⟨n, b, lo⟩ := by
    unfold ofName
    have h1 := has_self ⟨n, b, lo⟩ []
    have h2 := find_self ⟨n, b, lo⟩ []
    dsimp only at h1 h2
    rw [if_pos h1, h2]
    rfl
  unfold appendM
  rw [if_neg (by rw [hv]; simp), if_neg (by simp [usedM]; omega), e1]
  exact congrArg (·, (0 : Int)) (lay_self ⟨n, b, lo⟩ ⟨n, b ++ ys, lo + ys.length⟩ [] rfl)
theorem sync_self (hv : validS n = true) : syncM [⟨n, b, lo⟩] n = ([⟨n, b, 0⟩], 0) := by
  have h1 := get_self ⟨n, b, lo⟩ [] hv
  dsimp only at h1
  unfold syncM
  rw [h1, if_neg (by simp)]
  exact congrArg (·, (0 : Int)) (lay_self ⟨n, b, lo⟩ ⟨n, b, 0⟩ [] rfl)
theorem cut_self (hv : validS n = true) (k : Int) : cutM [⟨n, b, lo⟩] n k = ([⟨n, b.take k.toNat, 0⟩], 0) := by
  have h1 := get_self ⟨n, b, lo⟩ [] hv
  dsimp only at h1
  unfold cutM
  rw [h1, if_neg (by simp)]
  exact congrArg (·, (0 : Int)) (lay_self ⟨n, b, lo⟩ ⟨n, b.take k.toNat, 0⟩ [] rfl)
theorem crash_one (k : Int) (hl : lo ≤ b.length) : crashM [⟨n, b, lo⟩] [k] = [⟨n, b.take (b.length - lo + (min (max k 0) (lo : Int)).toNat), 0⟩] := by
  unfold crashM
  split
  · rename_i h
    have h : lo = 0 := h
    subst h
    simp only [crashM, List.cons.injEq, FileM.mk.injEq, and_true, true_and]
    rw [List.take_of_length_le (by omega)]
  · simp [crashM, crashF]
theorem crash_synced (keep : List Int) : crashM [⟨n, b, 0⟩] keep = [⟨n, b, 0⟩] := by
  unfold crashM
  rw [if_pos rfl]
  rfl
end
theorem num_any (k : Int) (w : World) : Calls Tryd.prog 13 #[.int .i64 k] w fun e w' => e = .returned (.int .i64 k) ∧ w' = w := by
  go_enter Tryd.func13, Tryd.ntmps13
  go_wp2
  go_ret
  exact ⟨rfl, rfl⟩
end Go.Proofs.YtefjbefmmmllbaaDoor
