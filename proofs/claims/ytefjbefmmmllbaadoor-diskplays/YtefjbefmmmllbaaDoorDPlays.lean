/- The whole of the statement's own do; what the other disk's append does; three new disks. -/
import Derived.Test.YtefjbefmmmllbaaDoorDDo2
namespace Go.Proofs.YtefjbefmmmllbaaDoor
open Go.RowKit Go.Maps

/-! What same tells: that they tell the same. -/
theorem OwnT.lower {w : World} {b b' : Nat} {v : Value} {ns : List ByteArray} (h : OwnT w b v ns) (hb : b' ≤ b) : OwnT w b' v ns := by
  refine ⟨h.1, ?_⟩
  rcases h.2 with h1 | ⟨g, cap, cur, h1, h2, h3⟩
  · exact .inl h1
  · exact .inr ⟨g, cap, cur, h1, by omega, h3⟩
section
variable {w0 w : World} {p q o : Nat} {room : Int} {l lo : List FileM}
set_option maxHeartbeats 3200000 in
set_option maxRecDepth 4000 in
theorem same_any (h : Duo w0 w p q o room l l lo none [] (fun _ => none)) (hf : Fits l) (n : ByteArray) (hn : n.size ≤ maxLen) :
    Calls Tryd.prog 10 #[.pointer (some ⟨p, 0, none⟩), .pointer (some ⟨q, 0, none⟩), .string n] w fun e w' => e = .returned (.bool true) ∧ Duo w0 w' p q o room l l lo none [] (fun _ => none) := by
  have H1 := Lib.hid (duo_read h hf n hn)
  have H2 : Hid (∀ (w1 : World) (v : Value), Below w.heap.size w w1 → Own .u8 5 w1 w.heap.size v (getM l n).1.b → ∃ B c, v = .slice B (getM l n).1.b.length c ∧ Calls Tryd.prog 26 #[.pointer (some ⟨q, 0, none⟩), .string n] w1 fun e w' => ∃ C d, e = .returned (.tuple #[.slice C (getM l n).1.b.length d, .int .i64 (getM l n).2]) ∧ Lies .u8 w' w'.heap.size B (getM l n).1.b ∧ Lies .u8 w' w'.heap.size C (getM l n).1.b ∧ Duo w0 w' p q o room l l lo none [] (fun _ => none)) := Lib.hid fun w1 v hb ho => by
    obtain ⟨B, c, rfl, _⟩ := ho.form
    refine ⟨B, c, rfl, (duo_rread (h.below hb) hf n hn).mono ?_⟩
    rintro e w' ⟨v2, rfl, ho2, hb2⟩
    obtain ⟨C, d, rfl, _⟩ := ho2.form
    exact ⟨C, d, rfl, (ho.lies.below hb2).more hb2.size, ho2.lies, (h.below hb).below hb2⟩
  have HLO : Hid (∀ w1 : World, Duo w0 w1 p q o room l l lo none [] (fun _ => none) → Calls Tryd.prog 27 #[.pointer (some ⟨p, 0, none⟩), .string n] w1 fun e w' => e = .returned (.int .i64 ((getM l n).1.loose : Int)) ∧ Duo w0 w' p q o room l l lo none [] (fun _ => none)) := Lib.hid fun w1 hd => (duo_loose hd n hn).mono fun e w' ⟨h1, h2⟩ => ⟨h1, hd.below h2⟩
  have HRL : Hid (∀ w1 : World, Duo w0 w1 p q o room l l lo none [] (fun _ => none) → Calls Tryd.prog 28 #[.pointer (some ⟨q, 0, none⟩), .string n] w1 fun e w' => e = .returned (.int .i64 ((getM l n).1.loose : Int)) ∧ Duo w0 w' p q o room l l lo none [] (fun _ => none)) := Lib.hid fun w1 hd => (duo_rloose hd n hn).mono fun e w' ⟨h1, h2⟩ => ⟨h1, hd.below h2⟩
  have HU : Hid (∀ w1 : World, Duo w0 w1 p q o room l l lo none [] (fun _ => none) → _) := Lib.hid fun w1 hd => duo_used hd
  have HRU : Hid (∀ w1 : World, Duo w0 w1 p q o room l l lo none [] (fun _ => none) → _) := Lib.hid fun w1 hd => duo_rused hd hf
  have HLI : Hid (∀ w1 : World, Duo w0 w1 p q o room l l lo none [] (fun _ => none) → Calls Tryd.prog 32 #[.pointer (some ⟨p, 0, none⟩)] w1 fun e w' => ∃ B c, e = .returned (.slice B (namesM l).length c) ∧ OwnT w' 0 (.slice B (namesM l).length c) (namesM l) ∧ Duo w0 w' p q o room l l lo none [] (fun _ => none)) := Lib.hid fun w1 hd => by
    refine (duo_list hd hf).mono ?_
    rintro e w' ⟨v, rfl, ho, hb⟩
    obtain ⟨B, c, rfl, _⟩ := ho.texts
    exact ⟨B, c, rfl, ho.lower (Nat.zero_le _), hd.below hb⟩
  have HRI : Hid (∀ (w1 : World) (B : Option Addr) (c : Nat), Duo w0 w1 p q o room l l lo none [] (fun _ => none) → OwnT w1 0 (.slice B (namesM l).length c) (namesM l) → Calls Tryd.prog 33 #[.pointer (some ⟨q, 0, none⟩)] w1 fun e w' => ∃ C d, e = .returned (.slice C (namesM l).length d) ∧ Duo w0 w' p q o room l l lo none [] (fun _ => none) ∧ Calls Tryd.prog 31 #[.slice B (namesM l).length c, .slice C (namesM l).length d] w' fun e w'' => e = .returned (.bool true) ∧ ∃ m, w'' = w'.drewN m) := Lib.hid fun w1 B c hd ho => by
    refine (duo_rlist hd hf).mono ?_
    rintro e w' ⟨v, rfl, ho2, hb⟩
    obtain ⟨C, d, rfl, ht2⟩ := ho2.texts
    obtain ⟨B', c', e1, ht1⟩ := (ho.below hb).texts
    injection e1 with e1 _ e3
    subst e1 e3
    refine ⟨C, d, rfl, hd.below hb, samestr_any w' (namesM l) B C c d ht1 ht2 ?_⟩
    have := hf.many
    unfold namesM
    rw [List.length_map]
    omega
  obtain ⟨r, hr⟩ : ∃ r, getM l n = r := ⟨_, rfl⟩
  obtain ⟨f, er⟩ := r
  simp only [hr] at H1 H2 HLO HRL
  obtain ⟨bs, hbs⟩ : ∃ bs, f.b = bs := ⟨_, rfl⟩
  obtain ⟨lo', hlo'⟩ : ∃ k, f.loose = k := ⟨_, rfl⟩
  obtain ⟨us, hus⟩ : ∃ k, usedM l = k := ⟨_, rfl⟩
  simp only [hbs] at H1 H2
  simp only [hlo'] at HLO HRL
  simp only [hus] at HU HRU
  obtain ⟨nl, hnl⟩ : ∃ k, (namesM l).length = k := ⟨_, rfl⟩
  simp only [hnl] at HLI HRI
  have hnum := Lib.hid num_any
  have q1 : (er == er) = true := by simp
  have q2 : ((textOf bs).toList == (textOf bs).toList) = true := by simp
  have q3 : ((lo' : Int) == (lo' : Int)) = true := by simp
  have q4 : ((us : Int) == (us : Int)) = true := by simp
  clear hr hbs hlo' hus hnl h hf hn
  go_enter Tryd.func10, Tryd.ntmps10
  go_wp2_with fail
  refine H1.out.mono ?_
  rintro e w1 ⟨v, rfl, ho, hb⟩
  obtain ⟨B, c, rfl, hc⟩ := H2.out w1 v hb ho
  have HC := Lib.hid hc
  clear hc ho hb H1 H2
  go_wp2_with fail
  refine HC.out.mono ?_
  rintro e w2 ⟨C, d, rfl, hl1, hl2, hd⟩
  have k1 := conv_bytes (P := Tryd.prog) 31 9 5 Tryd.underlying31 Tryd.underlying5 Tryd.underlying9 hl1 c
  have k2 := conv_bytes (P := Tryd.prog) 31 9 5 Tryd.underlying31 Tryd.underlying5 Tryd.underlying9 hl2 d
  have D2 := Lib.hid hd
  clear HC hl1 hl2 hd
  go_wp2_with (first
    | (go_at_call 13; refine (hnum.out _ _).mono ?_; rintro e w' ⟨rfl, rfl⟩)
    | (go_at_call 27; refine (HLO.out _ D2.out).mono ?_; rintro e w3 ⟨rfl, hd3⟩; have D3 := Lib.hid hd3; clear hd3)
    | (go_at_call 28; refine (HRL.out _ D3.out).mono ?_; rintro e w4 ⟨rfl, hd4⟩; have D4 := Lib.hid hd4; clear hd4)
    | (go_at_call 29; refine (HU.out _ D4.out).mono ?_; rintro e w' ⟨rfl, rfl⟩)
    | (go_at_call 30; refine (HRU.out _ D4.out).mono ?_; rintro e w' ⟨rfl, rfl⟩)
    | (go_at_call 32; refine (HLI.out _ D4.out).mono ?_; rintro e w5 ⟨B5, c5, rfl, ho5, hd5⟩; have HR := Lib.hid (HRI.out _ B5 c5 hd5 ho5); clear ho5 hd5)
    | (go_at_call 33; refine HR.out.mono ?_; rintro e w6 ⟨C6, d6, rfl, hd6, hs6⟩; have D6 := Lib.hid hd6; have HS := Lib.hid hs6; clear hd6 hs6)
    | (go_at_call 31; refine HS.out.mono ?_; rintro e w7 ⟨rfl, m, rfl⟩))
  go_ret
  exact ⟨rfl, D6.out.drewN m⟩
end

/-! The whole. -/

abbrev nO : ByteArray := ⟨#[111, 116, 104, 101, 114]⟩
section
variable {w0 w : World} {p q o : Nat} {room : Int} {l l2 lo : List FileM} {X : Nat → Option Obj}
/-- The other disk's append of a byte that the walk has laid in the newest block. -/
theorem duo_oappend (h : Duo w0 w p q o room l l2 lo none [] X) (hf : Fits lo) (c : Nat) (hc : 1 ≤ c) (ob : Obj) (hob : ob = .cells #[.int .u8 1] 5) :
    Calls Tryd.prog 8 #[.pointer (some ⟨o, 0, none⟩), .string nO, .slice (some ⟨w.heap.size, 0, none⟩) 1 c] (w.alloc ob) fun e w' => ∃ er lo', e = .returned (.int .i64 er) ∧ Few lo lo' 1 ∧ Duo w0 w' p q o room l l2 lo' none [] X := by
  subst hob
  have hb : Below w.heap.size w (w.alloc (.cells #[.int .u8 1] 5)) := (Below.refl _ _).alloc (Nat.le_refl _) _
  have hwz : (w.alloc (.cells #[.int .u8 1] 5)).heap.size = w.heap.size + 1 := by simp
  obtain ⟨S, T, O, fs, gs, os, h1, h2, rfl, hV0, hR0, hO1, ha, ⟨k1, k2, k3⟩, hl0⟩ := h
  have hV := hV0.below hb
  have hR := hR0.below hb
  have hO := hO1.below hb
  have hl := hl0.below hb
  have hk : Below w0.heap.size w0 (w.alloc (.cells #[.int .u8 1] 5)) ∧ Tabs (w.alloc (.cells #[.int .u8 1] 5)) ∧ 2 ≤ w0.heap.size ∧ 0 ≤ room ∧ room ≤ 9223372036854775807 := ⟨k1.trans (hb.mono k1.size), k2.below hb, k3⟩
  have h4 := hf.many
  have h5 := hf.used
  rw [filesP_length] at h4
  have hla := vappend_any hO nO (some ⟨w.heap.size, 0, none⟩) [1] c (by decide) hk.2.1 (by omega) (by omega) (by omega) (by omega) (fun _ => ⟨w.heap.size, 0, rfl, by omega, fun hs => by have := (hO1.within.2 _ hs).2; omega, fun j hj => ?_⟩) hc (fun h => by cases h) (fun x hx => by simp at hx; omega) (by simp)
  · refine hla.mono ?_
    rintro e w' ⟨rfl, fs', he, hL⟩
    exact ⟨_, _, rfl, append_few 99 (filesP os) nO [1], Duo.other h1 h2 hV hR hO ha hk hl he hL⟩
  · obtain rfl : j = 0 := by simp at hj; omega
    have e1 : (w.alloc (.cells #[.int .u8 1] 5)).heap[w.heap.size]? = some (.cells #[.int .u8 1] 5) := by
      show (w.heap.push _)[w.heap.size]? = _
      simp
    unfold World.cell?
    rw [e1]
    rfl
end
theorem duo_new {w0 w1 w2 w3 w4 : World} (hb : Below w0.heap.size w0 w1) (hT : Tabs w0) (room : Int) (h1 : room ≤ 9223372036854775807)
    (e2 : w2 = w1.alloc (.cells (diskCells (max room 0) 0 none) 44))
    (e3 : w3 = w2.alloc (.cells (diskCells (max 99 0) 0 none) 44))
    (e4 : w4 = w3.alloc (.cells #[.int .i64 (max room 0), .slice none 0 0] 47)) :
    Duo w0 w4 w1.heap.size w3.heap.size w2.heap.size (max room 0) [] [] [] none [] (fun _ => none) := by
  have s2 : w2.heap.size = w1.heap.size + 1 := by rw [e2]; simp
  have s3 : w3.heap.size = w2.heap.size + 1 := by rw [e3]; simp
  have hz := hb.size
  have b2 : Below w1.heap.size w1 w2 := by rw [e2]; exact (Below.refl _ _).alloc (Nat.le_refl _) _
  have b3 : Below w2.heap.size w2 w3 := by rw [e3]; exact (Below.refl _ _).alloc (Nat.le_refl _) _
  have b4 : Below w3.heap.size w3 w4 := by rw [e4]; exact (Below.refl _ _).alloc (Nat.le_refl _) _
  have hV := (vnew_disk w0.heap.size w1 (max room 0) hz)
  rw [← e2] at hV
  have hO := (vnew_disk w0.heap.size w2 (max 99 0) (by omega))
  rw [← e3, show max (99 : Int) 0 = 99 from by decide] at hO
  have hR := (rnew_disk w0.heap.size w3 (max room 0) (by omega))
  rw [← e4] at hR
  have hbb : Below w0.heap.size w0 w4 := ((hb.trans (b2.mono hz)).trans (b3.mono (by omega))).trans (b4.mono (by omega))
  refine ⟨_, _, _, [], [], [], rfl, rfl, rfl, (hV.below b3).below b4, hR, hO.below b4, ⟨fun i h h' => ?_, fun i h h' => ?_, fun i h h' => ?_⟩, ⟨hbb, hT.below hbb, hT.two, Int.le_max_right _ _, by omega⟩, LiesOff.none, fun _ _ h => by cases h⟩
  all_goals omega
section
variable {w0 w : World} {p q o : Nat} {room : Int} {l lo : List FileM}
theorem do_any (h : Duo w0 w p q o room l l lo none [] (fun _ => none)) (hf : Fits l) (a : ActM) (A : Option Addr) (c : Nat) (B : Option Addr) (d : Nat) (hA : SlCame .u8 w0 A c a.b) (hB : SlCame .i64 w0 B d a.l) (hw : a.wf) (hs : SmallA a) :
    Calls Tryd.prog 9 #[.pointer (some ⟨p, 0, none⟩), .pointer (some ⟨q, 0, none⟩), actV a A c B d] w (DoLeft w0 p q o room l lo) := by
  obtain ⟨s1, s2, s3, s4⟩ := hs
  by_cases h0 : a.way = 0
  · by_cases hz : a.b.length = 0
    · exact do_append_nil h hf a A c B d h0 hA hw s1 s3 hz
    · exact do_append_some h hf a A c B d h0 hA hw s1 s3 (Nat.pos_of_ne_zero hz)
  by_cases h1 : a.way = 1
  · exact do_sync h hf a A c B d h1 hw.1
  by_cases h2 : a.way = 2
  · exact do_cut h hf a A c B d h2 hw.1
  by_cases h3 : a.way = 3
  · exact do_rename h hf a A c B d h3 s1 s2
  by_cases h4 : a.way = 4
  · exact do_remove h hf a A c B d h4 hw.1
  by_cases h5 : a.way = 5
  · exact do_crash h hf a A c B d h5 hB
  exact do_none h a A c B d h0 h1 h2 h3 h4 h5
end
/-- How great the disks may be behind i calls. -/
structure Played (l lo : List FileM) (i : Nat) : Prop where
  many : l.length ≤ i
  used : usedM l ≤ 500 * i
  omany : lo.length ≤ i
  oused : usedM lo ≤ i
theorem Played.start : Played [] [] 0 := ⟨Nat.zero_le _, Nat.le_refl _, Nat.zero_le _, Nat.le_refl _⟩
theorem Played.fits {l lo : List FileM} {i : Nat} (h : Played l lo i) (hi : i ≤ 60) : Fits l := ⟨by have := h.many; omega, by have := h.used; omega⟩
theorem Played.ofits {l lo : List FileM} {i : Nat} (h : Played l lo i) (hi : i ≤ 60) : Fits lo := ⟨by have := h.omany; omega, by have := h.oused; omega⟩
theorem Played.next {l l' lo lo' : List FileM} {i : Nat} (h : Played l lo i) (h1 : Few l l' 500) (h2 : Few lo lo' 1) : Played l' lo' (i + 1) :=
  ⟨by have := h.many; have := h1.1; omega, by have := h.used; have := h1.2; omega, by have := h.omany; have := h2.1; omega, by have := h.oused; have := h2.2; omega⟩
end Go.Proofs.YtefjbefmmmllbaaDoor
