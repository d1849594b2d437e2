/- The whole of the statement's own Do; what the other store's put does; three new stores. -/
import Derived.Test.YtfbdmagonjjjoaaDoorSDo3
namespace Go.Proofs.YtfbdmagonjjjoaaDoor
open Go.RowKit Go.Maps

abbrev nO : ByteArray := ⟨#[111, 116, 104, 101, 114]⟩
theorem v_O : validS nO = true := by decide +kernel
/-- What the other store has. -/
def Oth (lo : List FileM) : Prop := lo = [] ∨ lo = [⟨nO, [], 0⟩]
theorem oth_put {lo : List FileM} (h : Oth lo) : putM 99 lo nO [] = ([⟨nO, [], 0⟩], 0) := by
  rcases h with rfl | rfl
  · exact put_none v_O (by simp)
  · exact put_self v_O (by simp)
theorem oth_few {lo : List FileM} (h : Oth lo) : lo.length ≤ 1 ∧ usedM lo = 0 := by
  rcases h with rfl | rfl
  · exact ⟨by simp, rfl⟩
  · exact ⟨by simp, rfl⟩
section
variable {w0 w : World} {p q o : Nat} {room : Int} {l l2 lo : List FileM} {bad bad2 : List Int} {A : Option Addr} {xs : List Int} {X : Nat → Option Obj}
theorem duo_oput (h : Duo w0 w p q o room l bad l2 bad2 lo A xs X) (ho : Oth lo) :
    Calls Tryd.prog 10 #[.pointer (some ⟨o, 0, none⟩), .string nO, .slice none 0 0] w fun e w' => e = .returned (.int .i64 0) ∧ Duo w0 w' p q o room l bad l2 bad2 [⟨nO, [], 0⟩] A xs X := by
  obtain ⟨S, T, O, fs, gs, os, h1, h2, rfl, hV, hR, hO, ha, hk, hl⟩ := h
  have hp := oth_put ho
  obtain ⟨q1, q2⟩ := oth_few ho
  rw [filesP_length] at q1
  have h := vPut_any hO nO none [] 0 (by decide) hk.2.1 hk.2.2.1 (by omega) (by omega) (by omega) (fun _ h => by cases h) LiesOff.none (fun _ => rfl) (Nat.le_refl _) (by simp) (by omega)
  rw [hp] at h
  refine h.mono ?_
  rintro e w' ⟨rfl, fs', he, hL⟩
  exact ⟨rfl, Duo.other h1 h2 hV hR hO ha hk hl he hL⟩
end
theorem duo_new {w0 w1 w2 w3 w4 : World} (hb : Below w0.heap.size w0 w1) (hT : Tabs w0) (room : Int) (h1 : room ≤ 9223372036854775807)
    (e2 : w2 = w1.alloc (.cells (storeCells (max room 0) 0 none (.slice none 0 0)) 48))
    (e3 : w3 = w2.alloc (.cells (storeCells (max 99 0) 0 none (.slice none 0 0)) 48))
    (e4 : w4 = w3.alloc (.cells #[.int .i64 (max room 0), .slice none 0 0, .slice none 0 0] 51)) :
    Duo w0 w4 w1.heap.size w3.heap.size w2.heap.size (max room 0) [] [] [] [] [] none [] (fun _ => none) := by
  have s2 : w2.heap.size = w1.heap.size + 1 := by rw [e2]; simp
  have s3 : w3.heap.size = w2.heap.size + 1 := by rw [e3]; simp
  have hz := hb.size
  have b2 : Below w1.heap.size w1 w2 := by rw [e2]; exact (Below.refl _ _).alloc (Nat.le_refl _) _
  have b3 : Below w2.heap.size w2 w3 := by rw [e3]; exact (Below.refl _ _).alloc (Nat.le_refl _) _
  have b4 : Below w3.heap.size w3 w4 := by rw [e4]; exact (Below.refl _ _).alloc (Nat.le_refl _) _
  have hV := (vsnew_store w0.heap.size w1 (max room 0) hz)
  rw [← e2] at hV
  have hO := (vsnew_store w0.heap.size w2 (max 99 0) (by omega))
  rw [← e3, show max (99 : Int) 0 = 99 from by decide] at hO
  have hR := (osnew_store w0.heap.size w3 (max room 0) (by omega))
  rw [← e4] at hR
  have hbb : Below w0.heap.size w0 w4 := ((hb.trans (b2.mono hz)).trans (b3.mono (by omega))).trans (b4.mono (by omega))
  refine ⟨_, _, _, [], [], [], rfl, rfl, rfl, (hV.below b3).below b4, hR, hO.below b4, ⟨fun i h h' => ?_, fun i h h' => ?_, fun i h h' => ?_⟩, ⟨hbb, hT.below hbb, hT.two, Int.le_max_right _ _, by omega⟩, LiesOff.none, fun _ _ h => by cases h⟩
  all_goals omega
section
variable {w0 w : World} {p q o : Nat} {room : Int} {l lo : List FileM} {bad : List Int}
theorem do_any (h : Duo w0 w p q o room l bad l bad lo none [] (fun _ => none)) (hf : Fits l bad) (a : ActM) (A : Option Addr) (c : Nat) (B : Option Addr) (d : Nat) (hA : SlCame .u8 w0 A c a.b) (hB : SlCame .i64 w0 B d a.l) (hw : a.wf) (hs : a.p.size ≤ 100 ∧ a.b.length ≤ 500 ∧ a.l.length ≤ 20) :
    Calls Tryd.prog 11 #[.pointer (some ⟨p, 0, none⟩), .pointer (some ⟨q, 0, none⟩), actV a A c B d] w (DoLeft w0 p q o room l bad lo) := by
  by_cases h0 : a.way = 0
  · exact do_put h hf a A c B d h0 hA hw hs.1 hs.2.1
  by_cases h1 : a.way = 1
  · exact do_get h hf a A c B d h1 hw.1
  by_cases h2 : a.way = 2
  · exact do_delete h hf a A c B d h2 hw.1
  by_cases h3 : a.way = 3
  · exact do_list h hf a A c B d h3
  by_cases h4 : a.way = 4
  · exact do_fail h hf a A c B d h4 hB hs.2.2
  exact do_none h a A c B d h0 h1 h2 h3 h4
end
/-- How great the stores may be behind i calls. -/
structure Played (l lo : List FileM) (bad : List Int) (i : Nat) : Prop where
  many : l.length ≤ i
  used : usedM l ≤ 500 * i
  bad : bad.length ≤ 20 * i
  oth : Oth lo
theorem Played.start : Played [] [] [] 0 := ⟨Nat.zero_le _, Nat.le_refl _, Nat.zero_le _, .inl rfl⟩
theorem Played.fits {l lo : List FileM} {bad : List Int} {i : Nat} (h : Played l lo bad i) (hi : i ≤ 60) : Fits l bad := ⟨by have := h.many; omega, by have := h.used; omega, by have := h.bad; omega⟩
theorem Played.next {l l' lo : List FileM} {bad bad' : List Int} {i : Nat} (h : Played l lo bad i) (h1 : l'.length ≤ l.length + 1) (h2 : usedM l' ≤ usedM l + 500) (h3 : bad'.length ≤ bad.length + 20) : Played l' [⟨nO, [], 0⟩] bad' (i + 1) :=
  ⟨by have := h.many; omega, by have := h.used; omega, by have := h.bad; omega, .inr rfl⟩
end Go.Proofs.YtfbdmagonjjjoaaDoor
