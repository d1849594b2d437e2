/- Chapter 11's own alive, and num. -/
import Derived.Test.YtgjgbelloobdfaaDedProg
namespace Go.Proofs.Ytgjgbelloobdfaa
open Go.RowKit

theorem num11_any (n : Int) (w : World) : Calls Try.prog 11 #[.int .i64 n] w (fun e w' => e = .returned (.int .i64 n) ∧ w = w') := by
  go_enter Try.func11, Try.ntmps11
  go_wp2
  go_ret
  exact ⟨rfl, rfl⟩
theorem PTab.below {base g : Nat} {S : Nat → Prop} {w w' : World} {l : List PidM} (h : PTab base S w g l) (hb : Below w.heap.size w w') : PTab base S w' g l := h.keep (U := Nobody) (Keep.of_below hb) fun _ _ h => h
/-- One table, since w0. -/
def Solo (w0 w : World) (g : Nat) (l : List PidM) : Prop := Below w0.heap.size w0 w ∧ ∃ S, PTab w0.heap.size S w g l
section
variable {w0 w w' : World} {g : Nat} {l : List PidM}
theorem Solo.since (h : Solo w0 w g l) : Below w0.heap.size w0 w := h.1
theorem Solo.tab (h : Solo w0 w g l) : TabM l := by obtain ⟨_, S, h⟩ := h; exact h.tab
theorem Solo.below (h : Solo w0 w g l) (hb : Below w.heap.size w w') : Solo w0 w' g l := by
  obtain ⟨h1, S, h2⟩ := h
  exact ⟨h1.trans (hb.mono h1.size), S, h2.below hb⟩
theorem Solo.left (h1 : Below w0.heap.size w0 w) {S : Nat → Prop} (h2 : Within w0.heap.size S w) (hl : PLeft w0.heap.size S w w' g l) : Solo w0 w' g l := by
  obtain ⟨S', _, hk, hp⟩ := hl
  exact ⟨h1.trans (hk.below h2), S', hp⟩
theorem Solo.new (w0 : World) {w : World} (hb : Below w0.heap.size w0 w) : Solo w0 (w.alloc tabO) w.heap.size [] := ⟨hb.alloc hb.size _, _, ptab_new w hb.size⟩
theorem Solo.ask (h : Solo w0 w g l) (p s : Int) (hp : -9223372036854775808 ≤ p ∧ p ≤ 9223372036854775807) (hs : -9223372036854775808 ≤ s ∧ s ≤ 9223372036854775807) :
    Calls Try.prog 9 #[.pointer (some ⟨g, 0, none⟩), .int .i64 p, .int .i64 s] w (fun e w' => e = .returned (.tuple #[.int .i64 (askP l p s).1, .int .i64 (askP l p s).2]) ∧ Solo w0 w' g l) := by
  obtain ⟨S, h2⟩ := h.2
  exact (pask_any h2 p s hp hs).mono fun e w' ⟨h3, h4⟩ => ⟨h3, h.below h4⟩
theorem Solo.set (h : Solo w0 w g l) (x : PidM) (hx : x.wf) :
    Calls Try.prog 8 #[.pointer (some ⟨g, 0, none⟩), .int .i64 x.pid, .int .i64 x.seq, .int .i64 x.off] w (fun e w' => e = .returned (.int .i64 (setP l x).2) ∧ Solo w0 w' g (setP l x).1) := by
  obtain ⟨S, h2⟩ := h.2
  exact (pset_any h2 x hx).mono fun e w' ⟨h3, h4⟩ => ⟨h3, Solo.left h.1 h2.within h4⟩
theorem Solo.rows (h : Solo w0 w g l) :
    Calls Try.prog 14 #[.pointer (some ⟨g, 0, none⟩)] w (fun e w' => ∃ v, e = .returned v ∧ OwnP 25 w' w.heap.size v l ∧ Below w.heap.size w w' ∧ Solo w0 w' g l) := by
  obtain ⟨S, h2⟩ := h.2
  exact (prows_any h2).mono fun e w' ⟨v, h3, h4, h5⟩ => ⟨v, h3, h4, h5, h.below h5⟩
end
set_option maxHeartbeats 800000 in
theorem alive11_any (w : World) : Calls Try.prog 7 #[] w (Yes w) := by
  have HA := Lib.hid (fun (W : World) (h : Solo w W w.heap.size []) => Solo.ask h 5 1 (by omega) (by omega))
  have HS := Lib.hid (fun (W : World) (h : Solo w W w.heap.size []) => Solo.set h ⟨5, 0, 9⟩ ⟨by decide, by decide, by decide⟩)
  have HB := Lib.hid (fun (W : World) (h : Solo w W w.heap.size [⟨5, 0, 9⟩]) => Solo.ask h 5 0 (by omega) (by omega))
  rw [show askP [] 5 1 = (2, 0) from rfl] at HA
  rw [show setP [] ⟨5, 0, 9⟩ = ([⟨5, 0, 9⟩], 0) from rfl] at HS
  rw [show askP [⟨5, 0, 9⟩] 5 0 = (1, 9) from rfl] at HB
  have H0 := Lib.hid (Solo.new w (Below.refl w.heap.size w))
  dsimp only at HA HS HB
  have HN := Lib.hid (num11_any 0)
  have htz := tab_zero
  go_enter Try.func7, Try.ntmps7
  go_wp2_with fail
  refine (HA.out _ H0.out).mono ?_
  rintro e w2 ⟨rfl, h2⟩
  have H2 := Lib.hid h2
  clear h2
  go_wp2_with fail
  refine (HS.out _ H2.out).mono ?_
  rintro e w3 ⟨rfl, h3⟩
  have H3 := Lib.hid h3
  clear h3
  go_wp2_with fail
  refine (HB.out _ H3.out).mono ?_
  rintro e w4 ⟨rfl, h4⟩
  have H4 := Lib.hid h4
  clear h4
  go_wp2_with (go_at_call 11; refine (HN.out _).mono ?_; rintro e w5 ⟨rfl, rfl⟩)
  go_ret
  exact ⟨rfl, H4.out.since⟩
end Go.Proofs.Ytgjgbelloobdfaa
