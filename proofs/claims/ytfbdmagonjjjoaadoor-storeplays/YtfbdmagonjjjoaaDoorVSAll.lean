/- Contracts of the program's own Put, Get and Delete. -/
import Derived.Test.YtfbdmagonjjjoaaDoorVSCall
namespace Go.Proofs.YtfbdmagonjjjoaaDoor
open Go.RowKit Go.Maps

section
variable {base : Nat} {S : Nat → Prop} {w : World} {p : Nat} {room u : Int} {fs : List FileP} {bad : List Int}
/-- Work that answers an error, as its number has it. -/
theorem vwork_any (hV : VStore base S w p room fs bad) (k : Nat) (xs ys : Array Value) (hcf : ∀ w, (callFunc k (xs ++ ys)).run Tryd.prog w = .ok (.enter k (xs ++ ys)) w) (r : List FileM × Int)
    (hw : ∀ w1, Left base S w w1 p room ((usedM (filesP fs) : Nat) : Int) fs bad.tail → Calls Tryd.prog k (xs ++ ys) w1 (DoesI base (Grow S w w1) p room bad.tail r w1)) :
    Calls Tryd.prog 16 #[.pointer (some ⟨p, 0, none⟩), .func (.func k) xs ys] w (DoesI base S p room bad.tail (faulty (bad.headD 0) (filesP fs) r) w) := by
  by_cases h0 : bad.headD 0 = 0
  · rw [h0, faulty_0]
    refine (vcall_0 hV k xs ys _ (fun w1 e w' h => ⟨_, h.1⟩) h0 hcf hw).mono ?_
    rintro e w' ⟨w1, hL, he, fs', hf, hL'⟩
    exact ⟨he, fs', hf, Left.trans hV.within hL.keep hL'⟩
  · by_cases h2 : bad.headD 0 = 2
    · rw [h2, faulty_2]
      refine (vcall_2 hV k xs ys (fun w1 v w' => v = .int .i64 (if r.2 = 0 then 9 else r.2) ∧ ∃ fs', filesP fs' = r.1 ∧ Left base (Grow S w w1) w1 w' p room ((usedM (filesP fs') : Nat) : Int) fs' bad.tail) h2 hcf fun w1 hL => ?_).mono ?_
      · refine (hw w1 hL).mono ?_
        rintro e w' ⟨he, hr⟩
        exact ⟨_, true, r.2, he, fun w => as_err _ w, (fun h => by cases h), rfl, hr⟩
      · rintro e w' ⟨w1, v, he, hL, hv, fs', hf, hL'⟩
        exact ⟨by rw [he, hv], fs', hf, Left.trans hV.within hL.keep hL'⟩
    · rw [faulty_no h0 h2]
      refine (vcall_no hV _ h0 h2).mono ?_
      rintro e w' ⟨he, hL⟩
      exact ⟨he, fs, rfl, hL⟩

theorem keep_box {w1 : World} (hk : Keep S w w1) {g : Nat} {v : Value} {t : TypeId} (hg : w.heap[g]? = some (.cells #[v] t (0, 0))) (hn : ¬ S g) : w1.cell? ⟨g, 0, none⟩ = some v := by
  unfold World.cell?
  show (match w1.heap[g]? with | some (.cells cs _ _) => _ | _ => _) = _
  rw [hk.block g (Array.getElem?_eq_some_iff.1 hg).1 hn, hg]
  rfl

set_option maxHeartbeats 400000 in
theorem vput1_any {g1 g2 g3 : Nat} {n : ByteArray} {A : Option Addr} {L c : Nat} {R : Ending → World → Prop} (c1 : w.cell? ⟨g1, 0, none⟩ = some (.pointer (some ⟨p, 0, none⟩))) (c2 : w.cell? ⟨g2, 0, none⟩ = some (.string n)) (c3 : w.cell? ⟨g3, 0, none⟩ = some (.slice A L c))
    (hR : ∀ e w', R e w' → ∃ v, e = .returned v) (h : Calls Tryd.prog 18 #[.pointer (some ⟨p, 0, none⟩), .string n, .slice A L c] w R) :
    Calls Tryd.prog 17 #[.pointer (some ⟨g1, 0, none⟩), .pointer (some ⟨g2, 0, none⟩), .pointer (some ⟨g3, 0, none⟩)] w R := by
  go_enter Tryd.func17, Tryd.ntmps17
  go_wp2_with fail
  refine h.mono ?_
  intro e w1 hr
  obtain ⟨v, rfl⟩ := hR _ _ hr
  go_wp2
  exact hr
set_option maxHeartbeats 400000 in
theorem vget1_any {g1 g2 : Nat} {n : ByteArray} {R : Ending → World → Prop} (c1 : w.cell? ⟨g1, 0, none⟩ = some (.pointer (some ⟨p, 0, none⟩))) (c2 : w.cell? ⟨g2, 0, none⟩ = some (.string n))
    (hR : ∀ e w', R e w' → ∃ v, e = .returned v) (h : Calls Tryd.prog 27 #[.pointer (some ⟨p, 0, none⟩), .string n] w R) :
    Calls Tryd.prog 26 #[.pointer (some ⟨g1, 0, none⟩), .pointer (some ⟨g2, 0, none⟩)] w R := by
  go_enter Tryd.func26, Tryd.ntmps26
  go_wp2_with fail
  refine h.mono ?_
  intro e w1 hr
  obtain ⟨v, rfl⟩ := hR _ _ hr
  go_wp2
  exact hr
set_option maxHeartbeats 400000 in
theorem vdel1_any {g1 g2 : Nat} {n : ByteArray} {R : Ending → World → Prop} (c1 : w.cell? ⟨g1, 0, none⟩ = some (.pointer (some ⟨p, 0, none⟩))) (c2 : w.cell? ⟨g2, 0, none⟩ = some (.string n))
    (hR : ∀ e w', R e w' → ∃ v, e = .returned v) (h : Calls Tryd.prog 30 #[.pointer (some ⟨p, 0, none⟩), .string n] w R) :
    Calls Tryd.prog 29 #[.pointer (some ⟨g1, 0, none⟩), .pointer (some ⟨g2, 0, none⟩)] w R := by
  go_enter Tryd.func29, Tryd.ntmps29
  go_wp2_with fail
  refine h.mono ?_
  intro e w1 hr
  obtain ⟨v, rfl⟩ := hR _ _ hr
  go_wp2
  exact hr

/-- The world with the boxes of two arguments. -/
abbrev box2 (w : World) (p : Nat) (n : ByteArray) : World := (w.alloc (.cells #[.pointer (some ⟨p, 0, none⟩)] 25)).alloc (.cells #[.string n] 9)
abbrev box3 (w : World) (p : Nat) (n : ByteArray) (A : Option Addr) (L c : Nat) : World := (box2 w p n).alloc (.cells #[.slice A L c] 32)
theorem below_box2 (w : World) (p : Nat) (n : ByteArray) : Below w.heap.size w (box2 w p n) := ((Below.refl _ _).alloc (Nat.le_refl _) _).alloc (by simp) _
theorem below_box3 (w : World) (p : Nat) (n : ByteArray) (A : Option Addr) (L c : Nat) : Below w.heap.size w (box3 w p n A L c) := (below_box2 w p n).alloc (by simp; omega) _
theorem box2_1 (w : World) (p : Nat) (n : ByteArray) : (box2 w p n).heap[w.heap.size]? = some (.cells #[.pointer (some ⟨p, 0, none⟩)] 25 (0, 0)) := by
  rw [Below.heap_alloc _ _ _ (by simp)]
  show (w.heap.push _)[w.heap.size]? = _
  simp
theorem box2_2 (w : World) (p : Nat) (n : ByteArray) : (box2 w p n).heap[w.heap.size + 1]? = some (.cells #[.string n] 9 (0, 0)) := by
  have e : w.heap.size + 1 = (w.heap.push (.cells #[.pointer (some ⟨p, 0, none⟩)] 25)).size := by simp
  rw [e]
  exact Array.getElem?_push_size
theorem box3_3 (w : World) (p : Nat) (n : ByteArray) (A : Option Addr) (L c : Nat) : (box3 w p n A L c).heap[w.heap.size + 2]? = some (.cells #[.slice A L c] 32 (0, 0)) := by
  have e : w.heap.size + 2 = (box2 w p n).heap.size := by simp
  rw [e]
  exact Array.getElem?_push_size

/-- DoesI behind new blocks. -/
theorem DoesI.behind {w' w2 : World} {e : Ending} {r : List FileM × Int} (hb : Below w.heap.size w w') (hW : Within base S w) (h : DoesI base S p room bad r w' e w2) : DoesI base S p room bad r w e w2 := by
  obtain ⟨he, fs', hf, hL⟩ := h
  exact ⟨he, fs', hf, Left.behind hb hL hW⟩

set_option maxHeartbeats 800000 in
set_option maxRecDepth 4000 in
theorem vPut_any (hV : VStore base S w p room fs bad) (n : ByteArray) (A : Option Addr) (ys : List Int) (c : Nat) (hn : n.size ≤ 281474976710656) (hT : Tabs w) (hB : 2 ≤ base) (hr0 : 0 ≤ room) (hr1 : room ≤ 9223372036854775807) (hu : usedM (filesP fs) ≤ 1099511627776) (hys : IsBytes ys)
    (hl : LiesOff S w A ys) (hA : A = none → c = 0) (hcl : ys.length ≤ c) (hyl : ys.length ≤ 549755813888) (hlen : fs.length < 1000000000) :
    Calls Tryd.prog 10 #[.pointer (some ⟨p, 0, none⟩), .string n, .slice A ys.length c] w (Does base S p room bad.tail (faulty (bad.headD 0) (filesP fs) (putM room (filesP fs) n ys)) w) := by
  have hbb := below_box3 w p n A ys.length c
  have hVb : VStore base S (box3 w p n A ys.length c) p room fs bad := hV.below hbb
  have hlb : LiesOff S (box3 w p n A ys.length c) A ys := (hl.keep (Keep.of_below hbb)).mono fun i _ hi => .inl hi
  have hnS : ∀ g, w.heap.size ≤ g → ¬ S g := fun g hg hs => by have := (hV.within.2 g hs).2; omega
  have hcl0 := vwork_any hVb 17 #[] #[.pointer (some ⟨w.heap.size, 0, none⟩), .pointer (some ⟨w.heap.size + 1, 0, none⟩), .pointer (some ⟨w.heap.size + 2, 0, none⟩)] (fun w => by kernel_rfl) (putM room (filesP fs) n ys) fun w1 hL => by
    refine vput1_any (keep_box hL.keep (by rw [Below.heap_alloc _ _ _ (by simp; omega)]; exact box2_1 w p n) (hnS _ (Nat.le_refl _))) (keep_box hL.keep (by rw [Below.heap_alloc _ _ _ (by simp)]; exact box2_2 w p n) (hnS _ (by omega))) (keep_box hL.keep (box3_3 w p n A ys.length c) (hnS _ (by omega))) (fun e w' h => ⟨_, h.1⟩) ?_
    exact vput_any hL.store n A ys c hn ((hT.below hbb).past (hL.below_base hVb.within) hB) hr0 hr1 hu hys (hlb.keep hL.keep) hA hcl hyl hlen
  have HC := Lib.hid hcl0
  have hW := Lib.hid hV.within
  have HB := Lib.hid hbb
  obtain ⟨L, hL⟩ : ∃ L, ys.length = L := ⟨_, rfl⟩
  rw [hL] at HC HB ⊢
  have a1 := as_err
  generalize faulty (bad.headD 0) (filesP fs) (putM room (filesP fs) n ys) = r at *
  clear hbb hVb hlb hnS hcl0 hV hn hT hB hr0 hr1 hu hys hl hA hcl hyl hlen hL
  unfold box3 box2 at HC HB
  go_enter Tryd.func10, Tryd.ntmps10
  go_wp2_with fail
  refine HC.out.mono ?_
  rintro e w1 ⟨rfl, hd⟩
  go_wp2
  go_ret
  obtain ⟨_, hd⟩ := DoesI.behind HB.out hW.out ⟨rfl, hd⟩
  exact ⟨rfl, hd⟩
set_option maxHeartbeats 800000 in
set_option maxRecDepth 4000 in
theorem vDelete_any (hV : VStore base S w p room fs bad) (n : ByteArray) (hn : n.size ≤ maxLen) (hT : Tabs w) (hB : 2 ≤ base) (hu : usedM (filesP fs) ≤ 1099511627776) :
    Calls Tryd.prog 14 #[.pointer (some ⟨p, 0, none⟩), .string n] w (Does base S p room bad.tail (faulty (bad.headD 0) (filesP fs) (removeM (filesP fs) n)) w) := by
  have hbb := below_box2 w p n
  have hVb : VStore base S (box2 w p n) p room fs bad := hV.below hbb
  have hnS : ∀ g, w.heap.size ≤ g → ¬ S g := fun g hg hs => by have := (hV.within.2 g hs).2; omega
  have hcl0 := vwork_any hVb 29 #[] #[.pointer (some ⟨w.heap.size, 0, none⟩), .pointer (some ⟨w.heap.size + 1, 0, none⟩)] (fun w => by kernel_rfl) (removeM (filesP fs) n) fun w1 hL => by
    refine vdel1_any (keep_box hL.keep (box2_1 w p n) (hnS _ (Nat.le_refl _))) (keep_box hL.keep (box2_2 w p n) (hnS _ (by omega))) (fun e w' h => ⟨_, h.1⟩) ?_
    exact vremove_any hL.store n hn ((hT.below hbb).past (hL.below_base hVb.within) hB) hu
  have HC := Lib.hid hcl0
  have hW := Lib.hid hV.within
  have HB := Lib.hid hbb
  have a1 := as_err
  generalize faulty (bad.headD 0) (filesP fs) (removeM (filesP fs) n) = r at *
  clear hbb hVb hnS hcl0 hV hn hT hB hu
  unfold box2 at HC HB
  go_enter Tryd.func14, Tryd.ntmps14
  go_wp2_with fail
  refine HC.out.mono ?_
  rintro e w1 ⟨rfl, hd⟩
  go_wp2
  go_ret
  obtain ⟨_, hd⟩ := DoesI.behind HB.out hW.out ⟨rfl, hd⟩
  exact ⟨rfl, hd⟩

/-- What get answers: an error, or an object's own bytes. -/
def GetI (fs : List FileP) (r : FileM × Int) (e : Ending) : Prop := (r.2 ≠ 0 ∧ e = .returned (.iface 29 (.int .i64 r.2))) ∨ (r.2 = 0 ∧ ∃ x ∈ fs, x.f = r.1 ∧ e = .returned (.iface 32 x.v))
theorem vget_any (hV : VStoreU base S w p room u fs bad) (n : ByteArray) (hn : n.size ≤ maxLen) (hT : Tabs w) :
    Calls Tryd.prog 27 #[.pointer (some ⟨p, 0, none⟩), .string n] w fun e w' => GetI fs (getM (filesP fs) n) e ∧ Below w.heap.size w w' := by
  cases hv : validS n with
  | false =>
    rw [getM_bad hv]
    exact (vget_bad n hn hT hv).mono fun e w' h => ⟨.inl ⟨by decide, h.1⟩, h.2⟩
  | true =>
    cases hh : hasF (filesP fs) n with
    | false =>
      rw [getM_none hv hh]
      exact (vget_none hV n hn hT hv hh).mono fun e w' h => ⟨.inl ⟨by decide, h.1⟩, h.2⟩
    | true =>
      obtain ⟨x, hx, rfl, _⟩ := has_file hh
      rw [getP_some hV.row.rising hx hv]
      exact (vget_some hV x hx _ rfl hn hT hv).mono fun e w' h => ⟨.inr ⟨rfl, x, hx, rfl, h.1⟩, h.2⟩
/-- get by its turn. -/
theorem vgetcall_any (hV : VStoreU base S w p room u fs bad) (k : Nat) (xs ys : Array Value) (hcf : ∀ w, (callFunc k (xs ++ ys)).run Tryd.prog w = .ok (.enter k (xs ++ ys)) w) (r : FileM × Int)
    (hw : ∀ w1, Left base S w w1 p room u fs bad.tail → Calls Tryd.prog k (xs ++ ys) w1 fun e w' => GetI fs r e ∧ Below w1.heap.size w1 w') :
    Calls Tryd.prog 16 #[.pointer (some ⟨p, 0, none⟩), .func (.func k) xs ys] w fun e w' => GetI fs (faultyG (bad.headD 0) r) e ∧ Left base S w w' p room u fs bad.tail := by
  by_cases h0 : bad.headD 0 = 0
  · rw [h0]
    refine (vcall_0 hV k xs ys (fun w1 e w' => GetI fs r e ∧ Below w1.heap.size w1 w') (fun w1 e w' h => ?_) h0 hcf hw).mono ?_
    · rcases h.1 with ⟨_, h⟩ | ⟨_, x, _, _, h⟩ <;> exact ⟨_, h⟩
    · rintro e w' ⟨w1, hL, he, hb⟩
      exact ⟨he, hL.more hV.within hb⟩
  · by_cases h2 : bad.headD 0 = 2
    · rw [h2]
      refine (vcall_2 hV k xs ys (fun w1 v w' => v = .int .i64 (if r.2 = 0 then 9 else r.2) ∧ Below w1.heap.size w1 w') h2 hcf fun w1 hL => ?_).mono ?_
      · refine (hw w1 hL).mono ?_
        rintro e w' ⟨he, hb⟩
        rcases he with ⟨_, he⟩ | ⟨hz, x, _, _, he⟩
        · exact ⟨_, true, r.2, he, fun w => as_err _ w, (fun h => by cases h), rfl, hb⟩
        · exact ⟨_, false, 0, he, fun w => bytes_err _ w, fun _ => rfl, by rw [hz], hb⟩
      · rintro e w' ⟨w1, v, he, hL, hv, hb⟩
        refine ⟨.inl ⟨?_, by rw [he, hv]; rfl⟩, hL.more hV.within hb⟩
        show (if r.2 = 0 then (9 : Int) else r.2) ≠ 0
        split <;> simp_all
    · refine (vcall_no hV _ h0 h2).mono ?_
      rintro e w' ⟨he, hL⟩
      have e1 : faultyG (bad.headD 0) r = (noFile, 9) := by unfold faultyG; rw [if_neg h0, if_neg h2]
      rw [e1]
      exact ⟨.inl ⟨by decide, he⟩, hL⟩
theorem faultyG_b (k : Int) (r : FileM × Int) (h : (faultyG k r).2 ≠ 0) (hr : r.2 ≠ 0 → r.1.b = []) : (faultyG k r).1.b = [] := by
  unfold faultyG at *
  split
  · rename_i h0
    rw [if_pos h0] at h
    exact hr h
  · rfl
theorem getM_b (l : List FileM) (n : ByteArray) (h : (getM l n).2 ≠ 0) : (getM l n).1.b = [] := by
  unfold getM at *
  split
  · rfl
  · rename_i h1
    rw [if_neg h1] at h
    split
    · rename_i h2
      rw [if_pos h2] at h
      exact absurd rfl h
    · rfl
/-- What Get answers. -/
def TellsG (base : Nat) (S : Nat → Prop) (p : Nat) (room u : Int) (fs : List FileP) (bad : List Int) (r : FileM × Int) (w : World) (e : Ending) (w' : World) : Prop :=
  ∃ v w1, e = .returned (.tuple #[v, .int .i64 r.2]) ∧ Left base S w w1 p room u fs bad ∧ Own .u8 5 w' w1.heap.size v r.1.b ∧ Below w1.heap.size w1 w'
set_option maxHeartbeats 1600000 in
set_option maxRecDepth 4000 in
theorem vGet_any (hV : VStoreU base S w p room u fs bad) (n : ByteArray) (hn : n.size ≤ maxLen) (hT : Tabs w) (hB : 2 ≤ base) (hs : ∀ x ∈ fs, x.f.b.length ≤ 549755813888) :
    Calls Tryd.prog 13 #[.pointer (some ⟨p, 0, none⟩), .string n] w (TellsG base S p room u fs bad.tail (faultyG (bad.headD 0) (getM (filesP fs) n)) w) := by
  have hbb := below_box2 w p n
  have hVb : VStoreU base S (box2 w p n) p room u fs bad := hV.below hbb
  have hnS : ∀ g, w.heap.size ≤ g → ¬ S g := fun g hg hs => by have := (hV.within.2 g hs).2; omega
  have hcl0 := vgetcall_any hVb 26 #[] #[.pointer (some ⟨w.heap.size, 0, none⟩), .pointer (some ⟨w.heap.size + 1, 0, none⟩)] (fun w => by kernel_rfl) (getM (filesP fs) n) fun w1 hL => by
    refine vget1_any (keep_box hL.keep (box2_1 w p n) (hnS _ (Nat.le_refl _))) (keep_box hL.keep (box2_2 w p n) (hnS _ (by omega))) (fun e w' h => ?_) ?_
    · rcases h.1 with ⟨_, h⟩ | ⟨_, x, _, _, h⟩ <;> exact ⟨_, h⟩
    · exact vget_any hL.store n hn ((hT.below hbb).past (hL.below_base hVb.within) hB)
  have hbl : (faultyG (bad.headD 0) (getM (filesP fs) n)).2 ≠ 0 → (faultyG (bad.headD 0) (getM (filesP fs) n)).1.b = [] := fun h => faultyG_b _ _ h (getM_b _ _)
  have hcn : ∀ w1, Left base S w w1 p room u fs bad.tail → ∀ x ∈ fs, (∃ A c, x.v = .slice A x.f.b.length c) ∧ Calls Tryd.prog 28 #[x.v] w1 (NewBytes w1 x.f.b) := fun w1 hL x hx => by
    have ho := (hL.store.row.file x hx).own
    obtain ⟨A, c, hv, _⟩ := ho.form
    exact ⟨⟨A, c, hv⟩, bclone_any _ _ _ w1 ho (hs x hx)⟩
  have CN := Lib.hid hcn
  have HC := Lib.hid hcl0
  have hW := Lib.hid hV.within
  have HB := Lib.hid hbb
  have BL := Lib.hid hbl
  have a1 := as_err
  have a2 := err_bytes
  have a3 := as_bytes
  generalize faultyG (bad.headD 0) (getM (filesP fs) n) = r at *
  clear hbb hVb hnS hcl0 hV hn hT hB hs hcn hbl
  unfold box2 at HC HB
  go_enter Tryd.func13, Tryd.ntmps13
  go_wp2_with fail
  refine HC.out.mono ?_
  rintro e w1 ⟨he, hL⟩
  have hL0 := Left.behind HB.out hL hW.out
  rcases he with ⟨hr, rfl⟩ | ⟨hr, x, hx, hxf, rfl⟩
  · have hnil := BL.out hr
    go_wp2
    go_ret2
    exact ⟨_, w1, rfl, hL0, by rw [hnil]; exact Own.nil, Below.refl _ _⟩
  · obtain ⟨⟨A, c, hv⟩, hcl⟩ := CN.out w1 hL0 x hx
    rw [hv] at hcl ⊢
    have HCL := Lib.hid hcl
    clear hcl
    rw [hxf] at HCL
    go_wp2_with fail
    refine HCL.out.mono ?_
    rintro e w2 ⟨v, rfl, ho, hb2⟩
    go_wp2
    go_ret2
    exact ⟨v, w1, by rw [hr]; rfl, hL0, ho, hb2⟩
end
end Go.Proofs.YtfbdmagonjjjoaaDoor
