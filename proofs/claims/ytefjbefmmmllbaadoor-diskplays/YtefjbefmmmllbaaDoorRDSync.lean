/- Contracts of the document's own NewDisk, Sync and Cut. -/
import Derived.Test.YtefjbefmmmllbaaDoorRDPutAny
namespace Go.Proofs.YtefjbefmmmllbaaDoor
open Go.RowKit

section
variable {base : Nat} {S : Nat → Prop} {w w' w'' : World} {p : Nat} {room : Int} {fs fs' : List FileV}
theorem RLeft.behind (hR : RDisk base S w p room fs) (hb : Below w.heap.size w w') (h' : RLeft base (Grow S w w') w' w'' p room fs') : RLeft base S w w'' p room fs' := by
  have hs := hb.size
  have hs2 := h'.keep.size
  have hk : Keep S w w'' := (Keep.of_below (S := S) hb).trans h'.keep fun i hi hg => by
    rcases hg with hg | hg
    · exact hg
    · omega
  refine ⟨hk, h'.disk.mono (fun i hi => ?_) (hR.1.grow hk.size)⟩
  rcases hi with (h | h) | h
  · exact .inl h
  · exact .inr (by omega)
  · exact .inr (by omega)
theorem RLeft.of_below (h : RDisk base S w p room fs) (hb : Below w.heap.size w w') : RLeft base S w w' p room fs :=
  ⟨Keep.of_below hb, (h.below hb).mono (fun _ => .inl) (h.1.grow hb.size)⟩
/-- put behind a call's own new blocks. -/
theorem put_after (hR : RDisk base S w p room fs) (hb : Below w.heap.size w w') (x : FileV) (hx : SlIn (Grow S w w') w' x.2 x.1.b) (hwf : x.1.wf) (hlen : fs.length ≤ 1000000000) :
    Calls Tryd.prog 41 #[.pointer (some ⟨p, 0, none⟩), .agg #[.string x.1.name, x.2, .int .i64 (x.1.loose : Int)]] w' fun e w'' => e = .returned (.tuple #[]) ∧ RLeft base S w w'' p room (layV fs x) := by
  have hR' : RDisk base (Grow S w w') w' p room fs := (hR.below hb).mono (fun _ => .inl) (hR.1.grow hb.size)
  refine (rput_any hR' x hx hwf hlen).mono ?_
  rintro e w'' ⟨rfl, h⟩
  exact ⟨rfl, RLeft.behind hR hb h⟩
/-- What Append and its like answer. -/
def RDoes (base : Nat) (S : Nat → Prop) (p : Nat) (room : Int) (r : List FileM × Int) (w : World) (e : Ending) (w' : World) : Prop :=
  e = .returned (.int .i64 r.2) ∧ ∃ fs', filesOf fs' = r.1 ∧ RLeft base S w w' p room fs'
theorem get_wf (hR : RDisk base S w p room fs) (n : ByteArray) : (getM (filesOf fs) n).1.wf := by
  unfold getM
  split
  · exact noFile_wf
  · split
    · rename_i h
      have hlt := hasF_lt h
      rw [List.getElem?_eq_getElem hlt]
      show ((filesOf fs)[findK (filesOf fs) n]).wf
      rw [filesOf_length] at hlt
      rw [filesOf_at fs _ hlt]
      obtain ⟨_, _, _, _, hr⟩ := hR
      exact (hr.2.2 _ (List.getElem_mem hlt)).2
    · exact noFile_wf
set_option maxHeartbeats 400000 in
theorem rnew_any (room : Int) (w : World) : Calls Tryd.prog 7 #[.int .i64 room] w fun e w' => e = .returned (.pointer (some ⟨w.heap.size, 0, none⟩)) ∧ w' = w.alloc (.cells #[.int .i64 (max room 0), .slice none 0 0] 47) := by
  by_cases hr : room < 0
  · rw [Int.max_eq_right (by omega)]
    go_enter Tryd.func7, Tryd.ntmps7
    go_wp2
    go_ret
    exact ⟨rfl, rfl⟩
  · rw [Int.max_eq_left (by omega)]
    go_enter Tryd.func7, Tryd.ntmps7
    go_wp2
    go_ret
    exact ⟨rfl, rfl⟩
theorem rnew_disk (base : Nat) (w : World) (room : Int) (hb : base ≤ w.heap.size) : RDisk base (fun i => i = w.heap.size) (w.alloc (.cells #[.int .i64 room, .slice none 0 0] 47)) w.heap.size room [] := by
  refine ⟨⟨by simp; omega, fun i hi => by subst hi; simp; omega⟩, rfl, .slice none 0 0, ?_, RowF.nil⟩
  show (w.heap.push _)[w.heap.size]? = _
  simp
set_option maxHeartbeats 800000 in
theorem rsync_any (hR : RDisk base S w p room fs) (n : ByteArray) (hn : n.size ≤ maxLen) (hlen : fs.length ≤ 1000000000) :
    Calls Tryd.prog 18 #[.pointer (some ⟨p, 0, none⟩), .string n] w (RDoes base S p room (syncM (filesOf fs) n) w) := by
  have HG := Lib.hid (rget_any base S w p room fs n hR hn)
  have hwf := get_wf hR n
  unfold syncM
  obtain ⟨f, er, hfe⟩ : ∃ f er, getM (filesOf fs) n = (f, er) := ⟨_, _, rfl⟩
  rw [hfe] at HG hwf ⊢
  clear hfe
  dsimp only at hwf ⊢
  have HR := Lib.hid hR
  by_cases he : er = 0
  · subst he
    have PA := Lib.hid (fun W hb v h => put_after (w' := W) hR hb (⟨f.name, f.b, 0⟩, v) h ⟨hwf.1, hwf.2.1, Nat.zero_le _⟩ hlen)
    rw [if_neg (by simp)]
    clear hR hwf hn hlen
    go_enter Tryd.func18, Tryd.ntmps18
    go_wp2_with fail
    refine HG.out.mono ?_
    rintro e w1 ⟨bv, rfl, hsl, hb1⟩
    have hsl1 := hsl.below hb1
    obtain ⟨A, c, rfl, _⟩ := id hsl
    dsimp only at hsl1 ⊢
    have HB := Lib.hid (hb1.alloc hb1.size (.cells #[.string f.name, .slice A f.b.length c, .int .i64 0] 74))
    have HP := Lib.hid (PA.out _ HB.out _ ((hsl1.below ((Below.refl _ _).alloc (Nat.le_refl _) _)).mono fun _ => .inl))
    clear hsl hsl1 hb1 HG PA
    go_wp2_with fail
    refine HP.out.mono ?_
    rintro e w2 ⟨rfl, hL⟩
    have FL := Lib.hid hL
    clear hL HP HB
    go_wp2
    go_ret
    exact ⟨rfl, _, filesOf_layV _ _, FL.out⟩
  · rw [if_pos he]
    have hne : (er != 0) = true := by simpa using he
    clear hwf hR
    go_enter Tryd.func18, Tryd.ntmps18
    go_wp2_with fail
    refine HG.out.mono ?_
    rintro e w1 ⟨bv, rfl, hsl, hb1⟩
    obtain ⟨A, c, rfl, _⟩ := id hsl
    dsimp only
    clear HG hsl
    go_wp2
    go_ret
    exact ⟨rfl, fs, rfl, RLeft.of_below HR.out (hb1.alloc hb1.size _)⟩
set_option maxHeartbeats 1600000 in
theorem rcut_any (hR : RDisk base S w p room fs) (n : ByteArray) (k : Int) (hn : n.size ≤ maxLen) (hlen : fs.length ≤ 1000000000) :
    Calls Tryd.prog 20 #[.pointer (some ⟨p, 0, none⟩), .string n, .int .i64 k] w (RDoes base S p room (cutM (filesOf fs) n k) w) := by
  have HG := Lib.hid (rget_any base S w p room fs n hR hn)
  have hwf := get_wf hR n
  unfold cutM
  obtain ⟨f, er, hfe⟩ : ∃ f er, getM (filesOf fs) n = (f, er) := ⟨_, _, rfl⟩
  rw [hfe] at HG hwf ⊢
  clear hfe
  dsimp only at hwf ⊢
  have HR := Lib.hid hR
  by_cases he : er = 0
  · subst he
    rw [if_neg (by simp)]
    by_cases hk0 : k < 0
    · by_cases hz : f.b.length = 0
      · have hz2 : ¬ (0 : Int) < (f.b.length : Int) := by omega
        have PA := Lib.hid (fun W hb v h => put_after (w' := W) hR hb (⟨f.name, f.b.take f.b.length, 0⟩, v) h ⟨hwf.1, fun c hc => hwf.2.1 c (List.mem_of_mem_take hc), Nat.zero_le _⟩ hlen)
        have HEQ := Lib.hid (show f.b.take k.toNat = f.b.take f.b.length by rw [show k.toNat = 0 by omega, List.take_of_length_le (Nat.le_refl _), List.eq_nil_of_length_eq_zero hz]; rfl)
        clear hR hwf hn hlen hz
        go_enter Tryd.func20, Tryd.ntmps20
        go_wp2_with fail
        refine HG.out.mono ?_
        rintro e w1 ⟨bv, rfl, hsl, hb1⟩
        have hsl1 := hsl.below hb1
        obtain ⟨A, c, rfl, hcc, hcm, hAn, _⟩ := id hsl
        dsimp only at hsl1 hcc ⊢
        have hsl2 := hsl1.take (n := f.b.length) (by omega)
        unfold maxLen at hcm
        have HB := Lib.hid (hb1.alloc hb1.size (.cells #[.string f.name, .slice A f.b.length c, .int .i64 0] 74))
        have HP := Lib.hid (PA.out _ HB.out _ ((hsl2.below ((Below.refl _ _).alloc (Nat.le_refl _) _)).mono fun _ => .inl))
        clear hsl hsl1 hsl2 hb1 HG PA hAn
        obtain ⟨bl, hbl⟩ : ∃ bl, f.b.length = bl := ⟨_, rfl⟩
        simp only [hbl] at *
        clear hbl
        go_wp2_with fail
        refine HP.out.mono ?_
        rintro e w2 ⟨rfl, hL⟩
        have FL := Lib.hid hL
        clear hL HP HB
        go_wp2
        go_ret
        exact ⟨rfl, _, by rw [HEQ.out]; exact filesOf_layV _ _, FL.out⟩
      · have hz2 : (0 : Int) < (f.b.length : Int) := by omega
        have PA := Lib.hid (fun W hb v h => put_after (w' := W) hR hb (⟨f.name, f.b.take 0, 0⟩, v) h ⟨hwf.1, fun c hc => hwf.2.1 c (List.mem_of_mem_take hc), Nat.zero_le _⟩ hlen)
        have HEQ := Lib.hid (show f.b.take k.toNat = f.b.take 0 by rw [show k.toNat = 0 by omega])
        clear hR hwf hn hlen
        go_enter Tryd.func20, Tryd.ntmps20
        go_wp2_with fail
        refine HG.out.mono ?_
        rintro e w1 ⟨bv, rfl, hsl, hb1⟩
        have hsl1 := hsl.below hb1
        obtain ⟨A, c, rfl, hcc, hcm, hAn, _⟩ := id hsl
        dsimp only at hsl1 hcc ⊢
        have hsl2 := hsl1.take (n := 0) (by omega)
        unfold maxLen at hcm
        have HB := Lib.hid (hb1.alloc hb1.size (.cells #[.string f.name, .slice A 0 c, .int .i64 0] 74))
        have HP := Lib.hid (PA.out _ HB.out _ ((hsl2.below ((Below.refl _ _).alloc (Nat.le_refl _) _)).mono fun _ => .inl))
        clear hsl hsl1 hsl2 hb1 HG PA hAn
        obtain ⟨bl, hbl⟩ : ∃ bl, f.b.length = bl := ⟨_, rfl⟩
        simp only [hbl] at *
        clear hbl
        go_wp2_with fail
        refine HP.out.mono ?_
        rintro e w2 ⟨rfl, hL⟩
        have FL := Lib.hid hL
        clear hL HP HB
        go_wp2
        go_ret
        exact ⟨rfl, _, by rw [HEQ.out]; exact filesOf_layV _ _, FL.out⟩
    · by_cases hkl : k < (f.b.length : Int)
      · obtain ⟨m, rfl⟩ : ∃ m : Nat, k = (m : Int) := ⟨k.toNat, by omega⟩
        have PA := Lib.hid (fun W hb v h => put_after (w' := W) hR hb (⟨f.name, f.b.take m, 0⟩, v) h ⟨hwf.1, fun c hc => hwf.2.1 c (List.mem_of_mem_take hc), Nat.zero_le _⟩ hlen)
        have HEQ := Lib.hid (show f.b.take ((m : Int)).toNat = f.b.take m by rw [Int.toNat_natCast])
        clear hR hwf hn hlen
        go_enter Tryd.func20, Tryd.ntmps20
        go_wp2_with fail
        refine HG.out.mono ?_
        rintro e w1 ⟨bv, rfl, hsl, hb1⟩
        have hsl1 := hsl.below hb1
        obtain ⟨A, c, rfl, hcc, hcm, hAn, _⟩ := id hsl
        dsimp only at hsl1 hcc ⊢
        have hsl2 := hsl1.take (n := m) (by omega)
        unfold maxLen at hcm
        have HB := Lib.hid (hb1.alloc hb1.size (.cells #[.string f.name, .slice A m c, .int .i64 0] 74))
        have HP := Lib.hid (PA.out _ HB.out _ ((hsl2.below ((Below.refl _ _).alloc (Nat.le_refl _) _)).mono fun _ => .inl))
        clear hsl hsl1 hsl2 hb1 HG PA hAn
        obtain ⟨bl, hbl⟩ : ∃ bl, f.b.length = bl := ⟨_, rfl⟩
        simp only [hbl] at *
        clear hbl
        go_wp2_with fail
        refine HP.out.mono ?_
        rintro e w2 ⟨rfl, hL⟩
        have FL := Lib.hid hL
        clear hL HP HB
        go_wp2
        go_ret
        exact ⟨rfl, _, by rw [HEQ.out]; exact filesOf_layV _ _, FL.out⟩
      · have PA := Lib.hid (fun W hb v h => put_after (w' := W) hR hb (⟨f.name, f.b.take f.b.length, 0⟩, v) h ⟨hwf.1, fun c hc => hwf.2.1 c (List.mem_of_mem_take hc), Nat.zero_le _⟩ hlen)
        have HEQ := Lib.hid (show f.b.take k.toNat = f.b.take f.b.length by rw [List.take_of_length_le (by omega), List.take_of_length_le (Nat.le_refl _)])
        clear hR hwf hn hlen
        go_enter Tryd.func20, Tryd.ntmps20
        go_wp2_with fail
        refine HG.out.mono ?_
        rintro e w1 ⟨bv, rfl, hsl, hb1⟩
        have hsl1 := hsl.below hb1
        obtain ⟨A, c, rfl, hcc, hcm, hAn, _⟩ := id hsl
        dsimp only at hsl1 hcc ⊢
        have hsl2 := hsl1.take (n := f.b.length) (by omega)
        unfold maxLen at hcm
        have HB := Lib.hid (hb1.alloc hb1.size (.cells #[.string f.name, .slice A f.b.length c, .int .i64 0] 74))
        have HP := Lib.hid (PA.out _ HB.out _ ((hsl2.below ((Below.refl _ _).alloc (Nat.le_refl _) _)).mono fun _ => .inl))
        clear hsl hsl1 hsl2 hb1 HG PA hAn
        obtain ⟨bl, hbl⟩ : ∃ bl, f.b.length = bl := ⟨_, rfl⟩
        simp only [hbl] at *
        clear hbl
        go_wp2_with fail
        refine HP.out.mono ?_
        rintro e w2 ⟨rfl, hL⟩
        have FL := Lib.hid hL
        clear hL HP HB
        go_wp2
        go_ret
        exact ⟨rfl, _, by rw [HEQ.out]; exact filesOf_layV _ _, FL.out⟩
  · rw [if_pos he]
    have hne : (er != 0) = true := by simpa using he
    clear hwf hR
    go_enter Tryd.func20, Tryd.ntmps20
    go_wp2_with fail
    refine HG.out.mono ?_
    rintro e w1 ⟨bv, rfl, hsl, hb1⟩
    obtain ⟨A, c, rfl, _⟩ := id hsl
    dsimp only
    clear HG hsl
    go_wp2
    go_ret
    exact ⟨rfl, fs, rfl, RLeft.of_below HR.out (hb1.alloc hb1.size _)⟩
end
end Go.Proofs.YtefjbefmmmllbaaDoor
