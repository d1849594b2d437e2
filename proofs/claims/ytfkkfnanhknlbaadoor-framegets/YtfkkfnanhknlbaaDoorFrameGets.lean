/- For every slice of bytes, nil too, the law FrameGets answers true, and its argument reads as before. Condition: the package-level table that the card lists lies as the program's own initialiser lays it. -/
import Derived.Test.YtfkkfnanhknlbaaDoorRows
import Derived.WalkKit
import Derived.ProofKit
import Derived.OpenShut
import Derived.ShutString
import Derived.ChangeOld
import Derived.Below
import Derived.LaidMore
import Derived.Stop.Joined
import Derived.SevenTiedAt
import Derived.Test.YtfkkfnanhknlbaaDoorCards
import Derived.Test.YtfkkfnanhknlbaaDoorTie
import Derived.Test.YtfkkfnanhknlbaaDoorCame
import Derived.Test.YtfkkfnanhknlbaaDoorFrAlive
import Derived.Test.YtfkkfnanhknlbaaDoorRFrAll
import Derived.Test.YtfkkfnanhknlbaaDoorCrcLaid
namespace Go.Proofs.YtfkkfnanhknlbaaDoor.frameGets
open Go.ChangeShapes Go.WideShapes Go.ChangeAt Go.RowKit
open Go.ChangeMaps (open_string shut_string)
set_option linter.unusedVariables false

theorem own : ownKnob Tryd.prog.godebug = none := by kernel_rfl
theorem laidOut : laidOutB Tryd.prog = true := by kernel_rfl

/-- WHAT THE WALK IS TOLD OF A SLICE OF INTEGERS THAT CAME IN: it is nil; or it leads to a row of 'cap' cells, the numbers 'zs' (the first 'len' are its elements, the rest its spare room), each fitting its kind. -/
def IsRow (k : IntKind) (w : World) (a : Option Addr) (len cap : Nat) (zs : List Int) : Prop :=
  (a = none ∧ len = 0 ∧ cap = 0 ∧ zs = []) ∨
  ∃ x, a = some x ∧ len ≤ cap ∧ cap ≤ maxLen ∧ zs.length = cap ∧ (∀ i, i < zs.length → w.cell? (x.add i) = some (.int k (zs.getD i 0))) ∧ ∀ n ∈ zs, (Lit.int k n).wf = true

set_option maxHeartbeats 1600000 in
theorem walk (a0 : Option Addr) (len0 cap0 : Nat) (z0 : List Int) (w : World) (hh : Half w) (w0 : IsRow .u8 w a0 len0 cap0 z0) :
    Calls Tryd.prog 4 #[.slice a0 len0 cap0] w fun e w' => e = .returned (.bool true) ∧ Below w.heap.size w w' := by
  obtain ⟨xs, rfl, hc, hm, hl, hwf, hn⟩ := row_came w0
  have hby : IsBytes xs := fun n hn => bounds_u8 (hwf n hn)
  clear w0 hwf hn
  by_cases h600 : 600 < xs.length
  · have h1 : (600 : Int) < (xs.length : Int) := by omega
    go_enter Tryd.func4, Tryd.ntmps4
    go_wp2_with fail
    refine (alive_any w hh).mono ?_
    rintro e w1 ⟨rfl, hbel⟩
    go_wp2
    go_ret
    exact ⟨rfl, hbel⟩
  have h1 : ¬ (600 : Int) < (xs.length : Int) := by omega
  obtain ⟨p, m, er, hr⟩ : ∃ p m er, getFr xs = (p, m, er) := ⟨_, _, _, rfl⟩
  have HR := Lib.hid hr
  clear hr
  obtain ⟨T, hT⟩ : ∃ T, textOf p = T := ⟨_, rfl⟩
  have hTT : (T.toList == T.toList) = true := by simp
  have hmm : (m == m) = true := by simp
  have hee : (er == er) = true := by simp
  have cvz : ∀ (W : World) (B : Nat) (X : Option Addr) (d : Nat), Lies .u8 W B X p → (convert 22 9 (.slice X p.length d)).run Tryd.prog W = .ok (.string T) W := fun W B X d h => by
    rw [← hT]
    exact conv_bytes 22 9 5 Tryd.underlying22 Tryd.underlying5 Tryd.underlying9 h d
  have CV := Lib.hid cvz
  clear cvz hT
  go_enter Tryd.func4, Tryd.ntmps4
  go_wp2_with fail
  refine (alive_any w hh).mono ?_
  rintro e w1 ⟨rfl, hb1⟩
  have hl1 := (hl.below hb1).more hb1.size
  have hh1 := hh.below hb1 hh.pos
  have g1 := fget_any a0 xs cap0 w1 hh1 hl1 hby hc hm
  rw [HR.out] at g1
  have G1 := Lib.hid g1
  clear g1
  go_wp2_with fail
  refine G1.out.mono ?_
  rintro e w2 ⟨v2, rfl, o2, hb2⟩
  dsimp only at o2
  clear G1
  have hl2 := (hl1.below hb2).more hb2.size
  have hh2 := hh1.below hb2 hh1.pos
  have g2 := reffget_any a0 xs cap0 w2 hl2 hby hc hm
  rw [HR.out] at g2
  have G2 := Lib.hid g2
  clear g2
  go_wp2_with fail
  refine G2.out.mono ?_
  rintro e w3 ⟨v3, rfl, o3, hb3⟩
  dsimp only at o3
  clear G2
  have hl3 := (hl2.below hb3).more hb3.size
  have hh3 := hh2.below hb3 hh2.pos
  have p2 := o2.below hb3
  have G3 := Lib.hid (fall_any a0 xs cap0 w3 hh3 hl3 hby hc hm (by omega))
  go_wp2_with fail
  refine G3.out.mono ?_
  rintro e w4 ⟨v4, ps, k, rfl, ha4, o4, hb4⟩
  clear G3
  have hl4 := (hl3.below hb4).more hb4.size
  have q2 := p2.below hb4
  have q3 := o3.below hb4
  have G4 := Lib.hid (reffall_any a0 xs cap0 w4 hl4 hby hc hm (by omega))
  go_wp2_with fail
  refine G4.out.mono ?_
  rintro e w5 ⟨v5, qs, k5, rfl, ha5, o5, hb5⟩
  clear G4
  obtain ⟨rfl, rfl⟩ := ha4.one ha5
  obtain ⟨A2, c2, rfl, _, _, l2⟩ := (q2.below hb5).parts
  obtain ⟨A3, c3, rfl, _, _, l3⟩ := (q3.below hb5).parts
  obtain ⟨A4, c4, rfl, hc4, hm4, l4⟩ := (o4.below hb5).parts
  obtain ⟨A5, c5, rfl, _, _, l5⟩ := o5.parts
  have cv2 := CV.out w5 _ A2 c2 l2
  have cv3 := CV.out w5 _ A3 c3 l3
  have hkk : ((k : Int) == (k : Int)) = true := by simp
  have SM := Lib.hid (same_any A4 A5 c4 c5 ps w5 l4 l5 (by omega))
  have b12 := hb1.trans (hb2.mono hb1.size)
  have b13 := b12.trans (hb3.mono b12.size)
  have b14 := b13.trans (hb4.mono b13.size)
  have b15 := b14.trans (hb5.mono b14.size)
  clear l2 l3 l4 l5 q2 q3 p2 o2 o3 o4 o5 hl hl1 hl2 hl3 hl4 hb1 hb2 hb3 hb4 hb5 b12 b13 b14 hh hh1 hh2 hh3 CV ha4 ha5
  go_wp2_with fail
  refine (num_any er w5).mono ?_
  rintro e w6 ⟨rfl, rfl⟩
  go_wp2_with fail
  refine SM.out.mono ?_
  rintro e w6 ⟨rfl, m6, rfl⟩
  go_wp2
  go_ret
  exact ⟨rfl, ⟨b15.os, b15.tape, b15.output, b15.size, b15.block⟩⟩

set_option maxRecDepth 100000 in
theorem lifted (os : Os) (started : os.Started) (H : Type) (enc : TypeId × Value → H) :
    ReturnsInHanded {} Tryd.checked os 4 .any (fun w args => (Rows.frameGetsSpec.pre enc Tryd.prog Tryd.f4 [] false w args ∧ laidMetH Tryd.prog laid1 w) ∧ sizedMet enc Tryd.prog Tryd.f4 (OpenSpec.ofChange Rows.frameGetsSpec) false w args) (Rows.frameGetsSpec.post enc Tryd.prog Tryd.f4 false true false false) := by
  refine returnsInHanded_of_change_and (C := Tryd.checked) (X := fun w _ => laidMetH Tryd.prog laid1 w) (fun _ _ _ hh h => h.of_heap hh) own started (by kernel_rfl) Tryd.func4
    (ChangeSpec.witness_shaped (enc := enc) (C := Tryd.checked) (os := os) (X := fun w _ => laidMetH Tryd.prog laid1 w) false (World.doorLaid Tryd.prog 400 os) #[.slice none 0 0] 8 rfl (World.shaped_of_RefB (by kernel_rfl) (by kernel_rfl)) (by kernel_rfl) (by kernel_rfl) (by kernel_rfl) (door_met os _)) ?_
  intro W base args ds gs before hval0 hW _ _ hL _
  have hval : ∀ (j : Nat) t v, Tryd.f4.params[j]? = some t → args[j]? = some v → Value.okWide Tryd.prog W .any base t v := hval0
  have hW' := hW
  obtain ⟨p, q, hA0, hV, rfl, hfz, hnd⟩ := hW
  have hA : DataW.TrodAll enc Tryd.prog W 0 (fun _ => true) true Tryd.f4.params.toList args.toList ds p := hA0
  rw [Tryd.params4] at hA hval
  obtain ⟨v0, vs0, d0, ds0, p0, q0, hargs, rfl, rfl, h0, r0⟩ := trodAll_cons hA
  obtain ⟨rfl, rfl, rfl⟩ := trodAll_nil r0
  obtain rfl : args = #[v0] := by cases args; simp_all
  obtain ⟨rfl, rfl⟩ := trodVars_none hV
  obtain ⟨a0, len0, cap0, rfl⟩ := okWide_slice Tryd.underlying22 (hval 0 22 v0 rfl rfl)
  have k0 := h0
  have lt0 : ∀ x ∈ p0, x.block < W.heap.size := by obtain ⟨m, hm⟩ := k0; exact DataW.trod_lt m _ _ _ hm
  obtain ⟨z0, w0⟩ : ∃ zs, IsRow .u8 W a0 len0 cap0 zs := by
    obtain ⟨fuel, hf⟩ := h0
    rcases open_ints Tryd.underlying22 Tryd.underlying5 (by kernel_rfl) hf with ⟨hcs, _⟩ | ⟨x, l, c, zs, hcs, _, hl, hm, hz, _, hcell, hwz⟩
    · simp [Value.cells] at hcs
      obtain ⟨rfl, rfl, rfl⟩ := hcs
      exact ⟨[], .inl ⟨rfl, rfl, rfl, rfl⟩⟩
    · simp [Value.cells] at hcs
      obtain ⟨rfl, rfl, rfl⟩ := hcs
      exact ⟨zs, .inr ⟨_, rfl, hl, hm, by simpa using hz, hcell, hwz⟩⟩
  clear hA0 hval0
  refine (walk a0 len0 cap0 z0 W (of_laid hL) w0).mono fun e W' ⟨he, bel⟩ => ?_
  subst he
  exact ⟨_, rfl, _, _, _, [], _, [], hW', trodAll_mk1 (shut_bool Tryd.underlying4 _), (trodAll_cons_mk (Below.trod laidOut (by kernel_rfl) (of_decide_eq_true (by kernel_rfl)) k0 bel lt0) trodAll_mk0), rfl, bel.frame _, fun h => by cases h⟩

theorem over : Rows.frameGetsRow.holds Tryd.pinned (OpenSpec.ofChange Rows.frameGetsSpec) :=
  OpenClaim.holds_of_wide 4 Tryd.f4 rfl rfl rfl rfl rfl rfl rfl ⟨rfl, rfl, rfl, rfl, rfl⟩ rfl rfl rfl rfl rfl (by kernel_rfl) Tryd.func4 (by kernel_rfl)
    (of_decide_eq_true (by kernel_rfl)) (by unfold Func.isWrapper; first | (rw [if_pos (by decide +kernel)]; kernel_rfl) | (rw [if_neg (by decide +kernel)]; exact ⟨rfl, rfl⟩))
    (fun os started H enc _ => lifted os started H enc)

theorem proved : Rows.FrameGetsCardSaid :=
  Claim7.holds_tied_plain_at .later [] [.data] true (true, "9e107c22ca914675d5dce9c957400d25d739763ef1521b3ddb2c86944bce0472") false
    over (fun _ h => by cases h) (by kernel_rfl) (fun _ h => by cases h) frameGets_row_tie rfl ⟨rfl, rfl⟩ (by kernel_rfl) rfl
    (fun f fn hf hfn => by
      obtain rfl : f = 4 := Option.some.inj ((show Tryd.prog.funcNamed "cooperage/cooperagelaw5.FrameGets" = some 4 by kernel_rfl).symm.trans hf) |>.symm
      obtain rfl : fn = Tryd.f4 := (Option.some.inj (Tryd.func4.symm.trans hfn)).symm
      exact ⟨by kernel_rfl, fun j t ht => by
        rw [Tryd.params4] at ht
        have hm : t ∈ [22] := by simpa using Array.mem_of_getElem? ht
        have hall : ([22].all fun u => !Tryd.prog.wantsStandIn u) = true := by kernel_rfl
        exact (show Tryd.prog.wantsStandIn t = false by simpa using List.all_eq_true.1 hall t hm)⟩)
    (by kernel_rfl)
#print axioms proved
end Go.Proofs.YtfkkfnanhknlbaaDoor.frameGets
