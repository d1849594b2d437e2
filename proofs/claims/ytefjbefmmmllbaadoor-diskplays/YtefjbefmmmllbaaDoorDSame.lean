/- What the statement's own same tells of the disks: that they tell the same. -/
import Derived.Test.YtefjbefmmmllbaaDoorDDuo
namespace Go.Proofs.YtefjbefmmmllbaaDoor
open Go.RowKit Go.Maps

theorem OwnT.lower {w : World} {b b' : Nat} {v : Value} {ns : List ByteArray} (h : OwnT w b v ns) (hb : b' ≤ b) : OwnT w b' v ns := by
  refine ⟨h.1, ?_⟩
  rcases h.2 with h1 | ⟨g, cap, cur, h1, h2, h3⟩
  · exact .inl h1
  · exact .inr ⟨g, cap, cur, h1, by omega, h3⟩
section
variable {w0 w : World} {p q o : Nat} {room : Int} {l lo : List FileM}
set_option maxHeartbeats 3200000 in
set_option maxRecDepth 4000 in
theorem same_any (h : Duo w0 w p q o room l l lo none [] (fun _ => none)) (hf : Fits l) (n : ByteArray) (hn : n.size ≤ maxLen) :
    Calls Tryd.prog 10 #[.pointer (some ⟨p, 0, none⟩), .pointer (some ⟨q, 0, none⟩), .string n] w fun e w' => e = .returned (.bool true) ∧ Duo w0 w' p q o room l l lo none [] (fun _ => none) := by
  have H1 := Lib.hid (duo_read h hf n hn)
  have H2 : Hid (∀ (w1 : World) (v : Value), Below w.heap.size w w1 → Own .u8 5 w1 w.heap.size v (getM l n).1.b → ∃ B c, v = .slice B (getM l n).1.b.length c ∧ Calls Tryd.prog 26 #[.pointer (some ⟨q, 0, none⟩), .string n] w1 fun e w' => ∃ C d, e = .returned (.tuple #[.slice C (getM l n).1.b.length d, .int .i64 (getM l n).2]) ∧ Lies .u8 w' w'.heap.size B (getM l n).1.b ∧ Lies .u8 w' w'.heap.size C (getM l n).1.b ∧ Duo w0 w' p q o room l l lo none [] (fun _ => none)) := Lib.hid fun w1 v hb ho => by
    obtain ⟨B, c, rfl, _⟩ := ho.form
    refine ⟨B, c, rfl, (duo_rread (h.below hb) hf n hn).mono ?_⟩
    rintro e w' ⟨v2, rfl, ho2, hb2⟩
    obtain ⟨C, d, rfl, _⟩ := ho2.form
    exact ⟨C, d, rfl, (ho.lies.below hb2).more hb2.size, ho2.lies, (h.below hb).below hb2⟩
  have HLO : Hid (∀ w1 : World, Duo w0 w1 p q o room l l lo none [] (fun _ => none) → Calls Tryd.prog 27 #[.pointer (some ⟨p, 0, none⟩), .string n] w1 fun e w' => e = .returned (.int .i64 ((getM l n).1.loose : Int)) ∧ Duo w0 w' p q o room l l lo none [] (fun _ => none)) := Lib.hid fun w1 hd => (duo_loose hd n hn).mono fun e w' ⟨h1, h2⟩ => ⟨h1, hd.below h2⟩
  have HRL : Hid (∀ w1 : World, Duo w0 w1 p q o room l l lo none [] (fun _ => none) → Calls Tryd.prog 28 #[.pointer (some ⟨q, 0, none⟩), .string n] w1 fun e w' => e = .returned (.int .i64 ((getM l n).1.loose : Int)) ∧ Duo w0 w' p q o room l l lo none [] (fun _ => none)) := Lib.hid fun w1 hd => (duo_rloose hd n hn).mono fun e w' ⟨h1, h2⟩ => ⟨h1, hd.below h2⟩
  have HU : Hid (∀ w1 : World, Duo w0 w1 p q o room l l lo none [] (fun _ => none) → _) := Lib.hid fun w1 hd => duo_used hd
  have HRU : Hid (∀ w1 : World, Duo w0 w1 p q o room l l lo none [] (fun _ => none) → _) := Lib.hid fun w1 hd => duo_rused hd hf
  have HLI : Hid (∀ w1 : World, Duo w0 w1 p q o room l l lo none [] (fun _ => none) → Calls Tryd.prog 32 #[.pointer (some ⟨p, 0, none⟩)] w1 fun e w' => ∃ B c, e = .returned (.slice B (namesM l).length c) ∧ OwnT w' 0 (.slice B (namesM l).length c) (namesM l) ∧ Duo w0 w' p q o room l l lo none [] (fun _ => none)) := Lib.hid fun w1 hd => by
    refine (duo_list hd hf).mono ?_
    rintro e w' ⟨v, rfl, ho, hb⟩
    obtain ⟨B, c, rfl, _⟩ := ho.texts
    exact ⟨B, c, rfl, ho.lower (Nat.zero_le _), hd.below hb⟩
  have HRI : Hid (∀ (w1 : World) (B : Option Addr) (c : Nat), Duo w0 w1 p q o room l l lo none [] (fun _ => none) → OwnT w1 0 (.slice B (namesM l).length c) (namesM l) → Calls Tryd.prog 33 #[.pointer (some ⟨q, 0, none⟩)] w1 fun e w' => ∃ C d, e = .returned (.slice C (namesM l).length d) ∧ Duo w0 w' p q o room l l lo none [] (fun _ => none) ∧ Calls Tryd.prog 31 #[.slice B (namesM l).length c, .slice C (namesM l).length d] w' fun e w'' => e = .returned (.bool true) ∧ ∃ m, w'' = w'.drewN m) := Lib.hid fun w1 B c hd ho => by
    refine (duo_rlist hd hf).mono ?_
    rintro e w' ⟨v, rfl, ho2, hb⟩
    obtain ⟨C, d, rfl, ht2⟩ := ho2.texts
    obtain ⟨B', c', e1, ht1⟩ := (ho.below hb).texts
    injection e1 with e1 _ e3
    subst e1 e3
    refine ⟨C, d, rfl, hd.below hb, samestr_any w' (namesM l) B C c d ht1 ht2 ?_⟩
    have := hf.many
    unfold namesM
    rw [List.length_map]
    omega
  obtain ⟨r, hr⟩ : ∃ r, getM l n = r := ⟨_, rfl⟩
  obtain ⟨f, er⟩ := r
  simp only [hr] at H1 H2 HLO HRL
  obtain ⟨bs, hbs⟩ : ∃ bs, f.b = bs := ⟨_, rfl⟩
  obtain ⟨lo', hlo'⟩ : ∃ k, f.loose = k := ⟨_, rfl⟩
  obtain ⟨us, hus⟩ : ∃ k, usedM l = k := ⟨_, rfl⟩
  simp only [hbs] at H1 H2
  simp only [hlo'] at HLO HRL
  simp only [hus] at HU HRU
  obtain ⟨nl, hnl⟩ : ∃ k, (namesM l).length = k := ⟨_, rfl⟩
  simp only [hnl] at HLI HRI
  have hnum := Lib.hid num_any
  have q1 : (er == er) = true := by simp
  have q2 : ((textOf bs).toList == (textOf bs).toList) = true := by simp
  have q3 : ((lo' : Int) == (lo' : Int)) = true := by simp
  have q4 : ((us : Int) == (us : Int)) = true := by simp
  clear hr hbs hlo' hus hnl h hf hn
  go_enter Tryd.func10, Tryd.ntmps10
  go_wp2_with fail
  refine H1.out.mono ?_
  rintro e w1 ⟨v, rfl, ho, hb⟩
  obtain ⟨B, c, rfl, hc⟩ := H2.out w1 v hb ho
  have HC := Lib.hid hc
  clear hc ho hb H1 H2
  go_wp2_with fail
  refine HC.out.mono ?_
  rintro e w2 ⟨C, d, rfl, hl1, hl2, hd⟩
  have k1 := conv_bytes (P := Tryd.prog) 31 9 5 Tryd.underlying31 Tryd.underlying5 Tryd.underlying9 hl1 c
  have k2 := conv_bytes (P := Tryd.prog) 31 9 5 Tryd.underlying31 Tryd.underlying5 Tryd.underlying9 hl2 d
  have D2 := Lib.hid hd
  clear HC hl1 hl2 hd
  go_wp2_with (first
    | (go_at_call 13; refine (hnum.out _ _).mono ?_; rintro e w' ⟨rfl, rfl⟩)
    | (go_at_call 27; refine (HLO.out _ D2.out).mono ?_; rintro e w3 ⟨rfl, hd3⟩; have D3 := Lib.hid hd3; clear hd3)
    | (go_at_call 28; refine (HRL.out _ D3.out).mono ?_; rintro e w4 ⟨rfl, hd4⟩; have D4 := Lib.hid hd4; clear hd4)
    | (go_at_call 29; refine (HU.out _ D4.out).mono ?_; rintro e w' ⟨rfl, rfl⟩)
    | (go_at_call 30; refine (HRU.out _ D4.out).mono ?_; rintro e w' ⟨rfl, rfl⟩)
    | (go_at_call 32; refine (HLI.out _ D4.out).mono ?_; rintro e w5 ⟨B5, c5, rfl, ho5, hd5⟩; have HR := Lib.hid (HRI.out _ B5 c5 hd5 ho5); clear ho5 hd5)
    | (go_at_call 33; refine HR.out.mono ?_; rintro e w6 ⟨C6, d6, rfl, hd6, hs6⟩; have D6 := Lib.hid hd6; have HS := Lib.hid hs6; clear hd6 hs6)
    | (go_at_call 31; refine HS.out.mono ?_; rintro e w7 ⟨rfl, m, rfl⟩))
  go_ret
  exact ⟨rfl, D6.out.drewN m⟩
end
end Go.Proofs.YtefjbefmmmllbaaDoor
