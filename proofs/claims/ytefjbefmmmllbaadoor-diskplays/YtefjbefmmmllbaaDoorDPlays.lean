/- The whole of the statement's own do; what the other disk's append does; three new disks. -/
import Derived.Test.YtefjbefmmmllbaaDoorDDo2
import Derived.Test.YtefjbefmmmllbaaDoorDSame
namespace Go.Proofs.YtefjbefmmmllbaaDoor
open Go.RowKit Go.Maps

abbrev nO : ByteArray := ⟨#[111, 116, 104, 101, 114]⟩
section
variable {w0 w : World} {p q o : Nat} {room : Int} {l l2 lo : List FileM} {X : Nat → Option Obj}
/-- The other disk's append of a byte that the walk has laid in the newest block. -/
theorem duo_oappend (h : Duo w0 w p q o room l l2 lo none [] X) (hf : Fits lo) (c : Nat) (hc : 1 ≤ c) (ob : Obj) (hob : ob = .cells #[.int .u8 1] 5) :
    Calls Tryd.prog 8 #[.pointer (some ⟨o, 0, none⟩), .string nO, .slice (some ⟨w.heap.size, 0, none⟩) 1 c] (w.alloc ob) fun e w' => ∃ er lo', e = .returned (.int .i64 er) ∧ Few lo lo' 1 ∧ Duo w0 w' p q o room l l2 lo' none [] X := by
  subst hob
  have hb : Below w.heap.size w (w.alloc (.cells #[.int .u8 1] 5)) := (Below.refl _ _).alloc (Nat.le_refl _) _
  have hwz : (w.alloc (.cells #[.int .u8 1] 5)).heap.size = w.heap.size + 1 := by simp
  obtain ⟨S, T, O, fs, gs, os, h1, h2, rfl, hV0, hR0, hO1, ha, ⟨k1, k2, k3⟩, hl0⟩ := h
  have hV := hV0.below hb
  have hR := hR0.below hb
  have hO := hO1.below hb
  have hl := hl0.below hb
  have hk : Below w0.heap.size w0 (w.alloc (.cells #[.int .u8 1] 5)) ∧ Tabs (w.alloc (.cells #[.int .u8 1] 5)) ∧ 2 ≤ w0.heap.size ∧ 0 ≤ room ∧ room ≤ 9223372036854775807 := ⟨k1.trans (hb.mono k1.size), k2.below hb, k3⟩
  have h4 := hf.many
  have h5 := hf.used
  rw [filesP_length] at h4
  have hla := vappend_any hO nO (some ⟨w.heap.size, 0, none⟩) [1] c (by decide) hk.2.1 (by omega) (by omega) (by omega) (by omega) (fun _ => ⟨w.heap.size, 0, rfl, by omega, fun hs => by have := (hO1.within.2 _ hs).2; omega, fun j hj => ?_⟩) hc (fun h => by cases h) (fun x hx => by simp at hx; omega) (by simp)
  · refine hla.mono ?_
    rintro e w' ⟨rfl, fs', he, hL⟩
    exact ⟨_, _, rfl, append_few 99 (filesP os) nO [1], Duo.other h1 h2 hV hR hO ha hk hl he hL⟩
  · obtain rfl : j = 0 := by simp at hj; omega
    have e1 : (w.alloc (.cells #[.int .u8 1] 5)).heap[w.heap.size]? = some (.cells #[.int .u8 1] 5) := by
      show (w.heap.push _)[w.heap.size]? = _
      simp
    unfold World.cell?
    rw [e1]
    rfl
end
theorem duo_new {w0 w1 w2 w3 w4 : World} (hb : Below w0.heap.size w0 w1) (hT : Tabs w0) (room : Int) (h1 : room ≤ 9223372036854775807)
    (e2 : w2 = w1.alloc (.cells (diskCells (max room 0) 0 none) 44))
    (e3 : w3 = w2.alloc (.cells (diskCells (max 99 0) 0 none) 44))
    (e4 : w4 = w3.alloc (.cells #[.int .i64 (max room 0), .slice none 0 0] 47)) :
    Duo w0 w4 w1.heap.size w3.heap.size w2.heap.size (max room 0) [] [] [] none [] (fun _ => none) := by
  have s2 : w2.heap.size = w1.heap.size + 1 := by rw [e2]; simp
  have s3 : w3.heap.size = w2.heap.size + 1 := by rw [e3]; simp
  have hz := hb.size
  have b2 : Below w1.heap.size w1 w2 := by rw [e2]; exact (Below.refl _ _).alloc (Nat.le_refl _) _
  have b3 : Below w2.heap.size w2 w3 := by rw [e3]; exact (Below.refl _ _).alloc (Nat.le_refl _) _
  have b4 : Below w3.heap.size w3 w4 := by rw [e4]; exact (Below.refl _ _).alloc (Nat.le_refl _) _
  have hV := (vnew_disk w0.heap.size w1 (max room 0) hz)
  rw [← e2] at hV
  have hO := (vnew_disk w0.heap.size w2 (max 99 0) (by omega))
  rw [← e3, show max (99 : Int) 0 = 99 from by decide] at hO
  have hR := (rnew_disk w0.heap.size w3 (max room 0) (by omega))
  rw [← e4] at hR
  have hbb : Below w0.heap.size w0 w4 := ((hb.trans (b2.mono hz)).trans (b3.mono (by omega))).trans (b4.mono (by omega))
  refine ⟨_, _, _, [], [], [], rfl, rfl, rfl, (hV.below b3).below b4, hR, hO.below b4, ⟨fun i h h' => ?_, fun i h h' => ?_, fun i h h' => ?_⟩, ⟨hbb, hT.below hbb, hT.two, Int.le_max_right _ _, by omega⟩, LiesOff.none, fun _ _ h => by cases h⟩
  all_goals omega
section
variable {w0 w : World} {p q o : Nat} {room : Int} {l lo : List FileM}
theorem do_any (h : Duo w0 w p q o room l l lo none [] (fun _ => none)) (hf : Fits l) (a : ActM) (A : Option Addr) (c : Nat) (B : Option Addr) (d : Nat) (hA : SlCame .u8 w0 A c a.b) (hB : SlCame .i64 w0 B d a.l) (hw : a.wf) (hs : SmallA a) :
    Calls Tryd.prog 9 #[.pointer (some ⟨p, 0, none⟩), .pointer (some ⟨q, 0, none⟩), actV a A c B d] w (DoLeft w0 p q o room l lo) := by
  obtain ⟨s1, s2, s3, s4⟩ := hs
  by_cases h0 : a.way = 0
  · by_cases hz : a.b.length = 0
    · exact do_append_nil h hf a A c B d h0 hA hw s1 s3 hz
    · exact do_append_some h hf a A c B d h0 hA hw s1 s3 (Nat.pos_of_ne_zero hz)
  by_cases h1 : a.way = 1
  · exact do_sync h hf a A c B d h1 hw.1
  by_cases h2 : a.way = 2
  · exact do_cut h hf a A c B d h2 hw.1
  by_cases h3 : a.way = 3
  · exact do_rename h hf a A c B d h3 s1 s2
  by_cases h4 : a.way = 4
  · exact do_remove h hf a A c B d h4 hw.1
  by_cases h5 : a.way = 5
  · exact do_crash h hf a A c B d h5 hB
  exact do_none h a A c B d h0 h1 h2 h3 h4 h5
end
/-- How great the disks may be behind i calls. -/
structure Played (l lo : List FileM) (i : Nat) : Prop where
  many : l.length ≤ i
  used : usedM l ≤ 500 * i
  omany : lo.length ≤ i
  oused : usedM lo ≤ i
theorem Played.start : Played [] [] 0 := ⟨Nat.zero_le _, Nat.le_refl _, Nat.zero_le _, Nat.le_refl _⟩
theorem Played.fits {l lo : List FileM} {i : Nat} (h : Played l lo i) (hi : i ≤ 60) : Fits l := ⟨by have := h.many; omega, by have := h.used; omega⟩
theorem Played.ofits {l lo : List FileM} {i : Nat} (h : Played l lo i) (hi : i ≤ 60) : Fits lo := ⟨by have := h.omany; omega, by have := h.oused; omega⟩
theorem Played.next {l l' lo lo' : List FileM} {i : Nat} (h : Played l lo i) (h1 : Few l l' 500) (h2 : Few lo lo' 1) : Played l' lo' (i + 1) :=
  ⟨by have := h.many; have := h1.1; omega, by have := h.used; have := h1.2; omega, by have := h.omany; have := h2.1; omega, by have := h.oused; have := h2.2; omega⟩
end Go.Proofs.YtefjbefmmmllbaaDoor
