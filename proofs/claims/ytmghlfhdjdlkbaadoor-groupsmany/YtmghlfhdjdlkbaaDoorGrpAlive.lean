/- Chapter 12's own alive, and num. -/
import Derived.Test.YtmghlfhdjdlkbaaDoorGrpProg
namespace Go.Proofs.YtmghlfhdjdlkbaaDoor
open Go.RowKit

theorem num12_any (n : Int) (w : World) : Calls Tryd.prog 7 #[.int .i64 n] w (fun e w' => e = .returned (.int .i64 n) ∧ w = w') := by
  go_enter Tryd.func7, Tryd.ntmps7
  go_wp2
  go_ret
  exact ⟨rfl, rfl⟩
theorem GTab.below {base g : Nat} {S : Nat → Prop} {w w' : World} {l : List PlaceM} (h : GTab base S w g l) (hb : Below w.heap.size w w') : GTab base S w' g l := h.keep (U := Nobody) (Keep.of_below hb) fun _ _ h => h
/-- One table, since w0. -/
def SoloG (w0 w : World) (g : Nat) (l : List PlaceM) : Prop := Below w0.heap.size w0 w ∧ ∃ S, GTab w0.heap.size S w g l
section
variable {w0 w w' : World} {g : Nat} {l : List PlaceM}
theorem SoloG.since (h : SoloG w0 w g l) : Below w0.heap.size w0 w := h.1
theorem SoloG.tab (h : SoloG w0 w g l) : PlacesM l := by obtain ⟨_, S, h⟩ := h; exact h.tab
theorem SoloG.below (h : SoloG w0 w g l) (hb : Below w.heap.size w w') : SoloG w0 w' g l := by
  obtain ⟨h1, S, h2⟩ := h
  exact ⟨h1.trans (hb.mono h1.size), S, h2.below hb⟩
theorem SoloG.left (h1 : Below w0.heap.size w0 w) {S : Nat → Prop} (h2 : Within w0.heap.size S w) (hl : GrLeft w0.heap.size S w w' g l) : SoloG w0 w' g l := by
  obtain ⟨S', _, hk, hp⟩ := hl
  exact ⟨h1.trans (hk.below h2), S', hp⟩
theorem SoloG.new (w0 : World) {w : World} (hb : Below w0.heap.size w0 w) : SoloG w0 (w.alloc gtabO) w.heap.size [] := ⟨hb.alloc hb.size _, _, gtab_new w hb.size⟩
theorem SoloG.get (h : SoloG w0 w g l) (n : ByteArray) (hn : n.size ≤ maxLen) :
    Calls Tryd.prog 9 #[.pointer (some ⟨g, 0, none⟩), .string n] w (fun e w' => e = .returned (.tuple #[.int .i64 (getN l n).1, .bool (getN l n).2]) ∧ SoloG w0 w' g l) := by
  obtain ⟨S, h2⟩ := h.2
  exact (gget_any h2 n hn).mono fun e w' ⟨h3, h4⟩ => ⟨h3, h.below h4⟩
theorem SoloG.set (hT : Tabs w0) (h : SoloG w0 w g l) (x : PlaceM) (hx : x.wf) :
    Calls Tryd.prog 6 #[.pointer (some ⟨g, 0, none⟩), .string x.name, .int .i64 x.off] w (fun e w' => e = .returned (.int .i64 (setN l x).2) ∧ SoloG w0 w' g (setN l x).1) := by
  obtain ⟨S, h2⟩ := h.2
  exact (gset_any (hT.below h.1) h2 x hx).mono fun e w' ⟨h3, h4⟩ => ⟨h3, SoloG.left h.1 h2.within h4⟩
theorem SoloG.rows (h : SoloG w0 w g l) :
    Calls Tryd.prog 12 #[.pointer (some ⟨g, 0, none⟩)] w (fun e w' => ∃ v, e = .returned v ∧ OwnG 25 w' w.heap.size v l ∧ Below w.heap.size w w' ∧ SoloG w0 w' g l) := by
  obtain ⟨S, h2⟩ := h.2
  exact (grows_any h2).mono fun e w' ⟨v, h3, h4, h5⟩ => ⟨v, h3, h4, h5, h.below h5⟩
end
theorem aName_valid : validS ⟨#[97]⟩ = true := by decide +kernel
theorem alive_set : setN [] ⟨⟨#[97]⟩, 9⟩ = ([⟨⟨#[97]⟩, 9⟩], 0) := by
  unfold setN
  rw [if_neg (by rw [aName_valid]; decide), if_neg (by simp)]
  rfl
theorem alive_get : getN [⟨⟨#[97]⟩, 9⟩] ⟨#[97]⟩ = (9, true) := if_pos rfl
set_option maxHeartbeats 800000 in
theorem alive12_any (w : World) (hT : Tabs w) : Calls Tryd.prog 5 #[] w (Yes w) := by
  have HA := Lib.hid (fun (W : World) (h : SoloG w W w.heap.size []) => SoloG.get h ⟨#[97]⟩ (by decide +kernel))
  have HS := Lib.hid (fun (W : World) (h : SoloG w W w.heap.size []) => SoloG.set hT h ⟨⟨#[97]⟩, 9⟩ ⟨by decide +kernel, by decide, by decide⟩)
  have HB := Lib.hid (fun (W : World) (h : SoloG w W w.heap.size [⟨⟨#[97]⟩, 9⟩]) => SoloG.get h ⟨#[97]⟩ (by decide +kernel))
  rw [show getN [] ⟨#[97]⟩ = (0, false) from rfl] at HA
  rw [alive_set] at HS
  rw [alive_get] at HB
  have H0 := Lib.hid (SoloG.new w (Below.refl w.heap.size w))
  dsimp only at HA HS HB
  have HN := Lib.hid (num12_any 0)
  have htz := gtab_zero
  go_enter Tryd.func5, Tryd.ntmps5
  go_wp2_with fail
  refine (HA.out _ H0.out).mono ?_
  rintro e w2 ⟨rfl, h2⟩
  have H2 := Lib.hid h2
  clear h2
  go_wp2_with fail
  refine (HS.out _ H2.out).mono ?_
  rintro e w3 ⟨rfl, h3⟩
  have H3 := Lib.hid h3
  clear h3
  go_wp2_with fail
  refine (HB.out _ H3.out).mono ?_
  rintro e w4 ⟨rfl, h4⟩
  have H4 := Lib.hid h4
  clear h4
  go_wp2_with (go_at_call 7; refine (HN.out _).mono ?_; rintro e w5 ⟨rfl, rfl⟩)
  go_ret
  exact ⟨rfl, H4.out.since⟩
end Go.Proofs.YtmghlfhdjdlkbaaDoor
