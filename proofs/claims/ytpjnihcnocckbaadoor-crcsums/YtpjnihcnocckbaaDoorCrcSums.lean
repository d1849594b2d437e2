/- For every two slices of bytes, nil too, the law CrcSums answers true, and its arguments read as before; where the program's table lies as the program's own text lays it (the card ties that). -/
import Derived.Test.YtpjnihcnocckbaaDoorRows
import Derived.WalkKit
import Derived.ProofKit
import Derived.OpenShut
import Derived.ShutString
import Derived.ChangeOld
import Derived.Below
import Derived.LaidMore
import Derived.Stop.Joined
import Derived.SevenTiedAt
import Derived.Test.YtpjnihcnocckbaaDoorCards
import Derived.Test.YtpjnihcnocckbaaDoorTie
import Derived.Test.YtpjnihcnocckbaaDoorCame
import Derived.Test.YtpjnihcnocckbaaDoorCrc
import Derived.Test.YtpjnihcnocckbaaDoorCrcLaid
namespace Go.Proofs.YtpjnihcnocckbaaDoor.crcSums
open Go.ChangeShapes Go.WideShapes Go.ChangeAt Go.RowKit
open Go.ChangeMaps (open_string shut_string)
set_option linter.unusedVariables false

theorem own : ownKnob Tryd.prog.godebug = none := by kernel_rfl
theorem laidOut : laidOutB Tryd.prog = true := by kernel_rfl

/-- WHAT THE WALK IS TOLD OF A SLICE OF INTEGERS THAT CAME IN: it is nil; or it leads to a row of 'cap' cells, the numbers 'zs' (the first 'len' are its elements, the rest its spare room), each fitting its kind. -/
def IsRow (k : IntKind) (w : World) (a : Option Addr) (len cap : Nat) (zs : List Int) : Prop :=
  (a = none ∧ len = 0 ∧ cap = 0 ∧ zs = []) ∨
  ∃ x, a = some x ∧ len ≤ cap ∧ cap ≤ maxLen ∧ zs.length = cap ∧ (∀ i, i < zs.length → w.cell? (x.add i) = some (.int k (zs.getD i 0))) ∧ ∀ n ∈ zs, (Lit.int k n).wf = true

set_option maxHeartbeats 1600000 in
theorem walk (a0 : Option Addr) (len0 cap0 : Nat) (z0 : List Int) (a1 : Option Addr) (len1 cap1 : Nat) (z1 : List Int) (w : World) (hh : Half w) (w0 : IsRow .u8 w a0 len0 cap0 z0) (w1 : IsRow .u8 w a1 len1 cap1 z1) :
    Calls Tryd.prog 3 #[.slice a0 len0 cap0, .slice a1 len1 cap1] w fun e w' => e = .returned (.bool true) ∧ Below w.heap.size w w' := by
  obtain ⟨xs, rfl, hc, hm, hl, hwf, hn⟩ := row_came w0
  obtain ⟨ys, rfl, hc', hm', hl', hwf', hn'⟩ := row_came w1
  have hby : Bytes xs := fun n hn => bounds_u8 (hwf n hn)
  have hby' : Bytes ys := fun n hn => bounds_u8 (hwf' n hn)
  clear w1 hwf hwf' w0
  by_cases h500 : 500 < xs.length
  · have h1 : (500 : Int) < (xs.length : Int) := by omega
    go_enter Tryd.func3, Tryd.ntmps3
    go_wp2_with fail
    refine (alive_any w hh).mono ?_
    rintro e w1 ⟨rfl, hbel⟩
    go_wp2
    go_ret
    exact ⟨rfl, hbel⟩
  · have h1 : ¬ (500 : Int) < (xs.length : Int) := by omega
    by_cases h500' : 500 < ys.length
    · have h1' : (500 : Int) < (ys.length : Int) := by omega
      go_enter Tryd.func3, Tryd.ntmps3
      go_wp2_with fail
      refine (alive_any w hh).mono ?_
      rintro e w1 ⟨rfl, hbel⟩
      go_wp2
      go_ret
      exact ⟨rfl, hbel⟩
    · have h1' : ¬ (500 : Int) < (ys.length : Int) := by omega
      obtain ⟨i0, hi0, hz0, hz1, hz2⟩ := info_parts byte_info
      have HN := Lib.hid hn
      have HN' := Lib.hid hn'
      clear hn hn'
      go_enter Tryd.func3, Tryd.ntmps3
      go_wp2_with fail
      refine (alive_any w hh).mono ?_
      rintro e w1 ⟨rfl, hbel⟩
      have hl1 := (hl.below hbel).more hbel.size
      have hl1' := (hl'.below hbel).more hbel.size
      have hh1 := hh.below hbel hh.pos
      clear hl hl'
      go_wp2_with fail
      refine (sum_any a0 xs cap0 w1 hh1 hl1 hby (by omega)).mono ?_
      rintro e w2 ⟨rfl, rfl⟩
      have hmore := moreN_more (s := 0) (ys := ys) hby
      have hsl := moreN_lt 0 xs
      obtain ⟨r, hr⟩ : ∃ r, moreN 0 xs = r := ⟨_, rfl⟩
      rw [hr] at hmore hsl ⊢
      have HR := Lib.hid hr
      have HM := Lib.hid hmore
      clear hr hmore
      go_wp2_with fail
      refine (refsum_any a0 xs cap0 w1 hl1 hby (by omega)).mono ?_
      rintro e w2 ⟨rfl, rfl⟩
      rw [HR.out]
      have heq : ((r : Int) == (r : Int)) = true := by simp
      go_wp2_with fail
      refine (more_any r a1 ys cap1 w1 hh1 hsl hl1' hby' (by omega)).mono ?_
      rintro e w2 ⟨rfl, rfl⟩
      rw [HM.out]
      go_wp2_with (at_builtin; first
        | (refine wpList_append_ints_if rfl (.const (.slice none 0 0)) (.tmp 31) 22 rfl w1.heap.size 5 .u8 i0 1 Tryd.underlying22 hi0 hz0 hz1 hz2 (by decide) (.slice none 0 0) [] rfl Own.nil w1.heap.size a0 xs.length cap0 xs rfl rfl hc hl1 (by simp; omega) (Nat.le_refl _) HN.out ?_
           intro v1 w2 hown hgr _
           have hbel2 : Below w1.heap.size w1 w2 := (Own.nil (k := .u8) (e := 5) (w := w1) (base := w1.heap.size)).grown_below hgr (Nat.le_refl _)
           have hl2' := hl1'.below hbel2
           rw [List.nil_append] at hown
           clear hgr)
        | (refine wpList_append_ints_if rfl (.tmp 32) (.tmp 33) 22 rfl w1.heap.size 5 .u8 i0 1 Tryd.underlying22 hi0 hz0 hz1 hz2 (by decide) v1 xs rfl hown w1.heap.size a1 ys.length cap1 ys rfl rfl hc' hl2' (by omega) hbel2.size HN'.out ?_
           intro v2 w3 hown3 hgr3 _
           have hbel3 : Below w1.heap.size w1 w3 := hbel2.trans (hown.grown_below hgr3 hbel2.size)
           obtain ⟨A2, c2, rfl, hc3, hm3, hl3⟩ := hown3.parts
           clear hgr3 hown hown3))
      have hbyb : Bytes (xs ++ ys) := fun n hn => by
        rcases List.mem_append.1 hn with h | h
        · exact hby n h
        · exact hby' n h
      have hh3 := hh1.below hbel3 hh1.pos
      have hs3 := sum_any A2 (xs ++ ys) c2 w3 hh3 hl3 hbyb (by simp [maxLen]; omega)
      rw [List.length_append] at hs3
      refine hs3.mono ?_
      rintro e w4 ⟨rfl, rfl⟩
      clear hs3 hl3 hc3
      obtain ⟨r2, hr2⟩ : ∃ r2, moreN 0 (xs ++ ys) = r2 := ⟨_, rfl⟩
      rw [hr2]
      clear hr2 HM
      have heq2 : ((r2 : Int) == (r2 : Int)) = true := by simp
      go_wp2_with fail
      refine (sum_any none [] 0 w3 hh3 Lies.nil (by simp [Bytes]) (by simp [maxLen])).mono ?_
      rintro e w4 ⟨rfl, rfl⟩
      rw [moreN_nil (by omega)]
      go_wp2_with fail
      refine (more_any r none [] 0 w3 hh3 hsl Lies.nil (by simp [Bytes]) (by simp [maxLen])).mono ?_
      rintro e w4 ⟨rfl, rfl⟩
      rw [moreN_nil hsl]
      go_wp2
      go_ret
      exact ⟨rfl, hbel.trans (hbel3.mono hbel.size)⟩

set_option maxRecDepth 100000 in
theorem lifted (os : Os) (started : os.Started) (H : Type) (enc : TypeId × Value → H) :
    ReturnsInHanded {} Tryd.checked os 3 .any (fun w args => (Rows.crcSumsSpec.pre enc Tryd.prog Tryd.f3 [] false w args ∧ laidMetH Tryd.prog laid1 w) ∧ sizedMet enc Tryd.prog Tryd.f3 (OpenSpec.ofChange Rows.crcSumsSpec) false w args) (Rows.crcSumsSpec.post enc Tryd.prog Tryd.f3 false true false false) := by
  refine returnsInHanded_of_change_and (C := Tryd.checked) (X := fun w _ => laidMetH Tryd.prog laid1 w) (fun _ _ _ hh h => h.of_heap hh) own started (by kernel_rfl) Tryd.func3
    (ChangeSpec.witness_shaped (enc := enc) (C := Tryd.checked) (os := os) (X := fun w _ => laidMetH Tryd.prog laid1 w) false (World.doorLaid Tryd.prog 400 os) #[.slice none 0 0, .slice none 0 0] 8 rfl (World.shaped_of_RefB (by kernel_rfl) (by kernel_rfl)) (by kernel_rfl) (by kernel_rfl) (by kernel_rfl) (door_met os _)) ?_
  intro W base args ds gs before hval0 hW _ _ hL _
  have hval : ∀ (j : Nat) t v, Tryd.f3.params[j]? = some t → args[j]? = some v → Value.okWide Tryd.prog W .any base t v := hval0
  have hW' := hW
  obtain ⟨p, q, hA0, hV, rfl, hfz, hnd⟩ := hW
  have hA : DataW.TrodAll enc Tryd.prog W 0 (fun _ => true) true Tryd.f3.params.toList args.toList ds p := hA0
  rw [Tryd.params3] at hA hval
  obtain ⟨v0, vs0, d0, ds0, p0, q0, hargs, rfl, rfl, h0, r0⟩ := trodAll_cons hA
  obtain ⟨v1, vs1, d1, ds1, p1, q1, rfl, rfl, rfl, h1, r1⟩ := trodAll_cons r0
  obtain ⟨rfl, rfl, rfl⟩ := trodAll_nil r1
  obtain rfl : args = #[v0, v1] := by cases args; simp_all
  obtain ⟨rfl, rfl⟩ := trodVars_none hV
  obtain ⟨a0, len0, cap0, rfl⟩ := okWide_slice Tryd.underlying22 (hval 0 22 v0 rfl rfl)
  have k0 := h0
  have lt0 : ∀ x ∈ p0, x.block < W.heap.size := by obtain ⟨m, hm⟩ := k0; exact DataW.trod_lt m _ _ _ hm
  obtain ⟨z0, w0⟩ : ∃ zs, IsRow .u8 W a0 len0 cap0 zs := by
    obtain ⟨fuel, hf⟩ := h0
    rcases open_ints Tryd.underlying22 Tryd.underlying5 (by kernel_rfl) hf with ⟨hcs, _⟩ | ⟨x, l, c, zs, hcs, _, hl, hm, hz, _, hcell, hwz⟩
    · simp [Value.cells] at hcs
      obtain ⟨rfl, rfl, rfl⟩ := hcs
      exact ⟨[], .inl ⟨rfl, rfl, rfl, rfl⟩⟩
    · simp [Value.cells] at hcs
      obtain ⟨rfl, rfl, rfl⟩ := hcs
      exact ⟨zs, .inr ⟨_, rfl, hl, hm, by simpa using hz, hcell, hwz⟩⟩
  obtain ⟨a1, len1, cap1, rfl⟩ := okWide_slice Tryd.underlying22 (hval 1 22 v1 rfl rfl)
  have k1 := h1
  have lt1 : ∀ x ∈ p1, x.block < W.heap.size := by obtain ⟨m, hm⟩ := k1; exact DataW.trod_lt m _ _ _ hm
  obtain ⟨z1, w1⟩ : ∃ zs, IsRow .u8 W a1 len1 cap1 zs := by
    obtain ⟨fuel, hf⟩ := h1
    rcases open_ints Tryd.underlying22 Tryd.underlying5 (by kernel_rfl) hf with ⟨hcs, _⟩ | ⟨x, l, c, zs, hcs, _, hl, hm, hz, _, hcell, hwz⟩
    · simp [Value.cells] at hcs
      obtain ⟨rfl, rfl, rfl⟩ := hcs
      exact ⟨[], .inl ⟨rfl, rfl, rfl, rfl⟩⟩
    · simp [Value.cells] at hcs
      obtain ⟨rfl, rfl, rfl⟩ := hcs
      exact ⟨zs, .inr ⟨_, rfl, hl, hm, by simpa using hz, hcell, hwz⟩⟩
  clear hA0 hval0
  refine (walk a0 len0 cap0 z0 a1 len1 cap1 z1 W (of_laid hL) w0 w1).mono fun e W' ⟨he, bel⟩ => ?_
  subst he
  exact ⟨_, rfl, _, _, _, [], _, [], hW', trodAll_mk1 (shut_bool Tryd.underlying4 _), (trodAll_cons_mk (Below.trod laidOut (by kernel_rfl) (of_decide_eq_true (by kernel_rfl)) k0 bel lt0) (trodAll_cons_mk (Below.trod laidOut (by kernel_rfl) (of_decide_eq_true (by kernel_rfl)) k1 bel lt1) trodAll_mk0)), rfl, bel.frame _, fun h => by cases h⟩

theorem over : Rows.crcSumsRow.holds Tryd.pinned (OpenSpec.ofChange Rows.crcSumsSpec) :=
  OpenClaim.holds_of_wide 3 Tryd.f3 rfl rfl rfl rfl rfl rfl rfl ⟨rfl, rfl, rfl, rfl, rfl⟩ rfl rfl rfl rfl rfl (by kernel_rfl) Tryd.func3 (by kernel_rfl)
    (of_decide_eq_true (by kernel_rfl)) (by unfold Func.isWrapper; first | (rw [if_pos (by decide +kernel)]; kernel_rfl) | (rw [if_neg (by decide +kernel)]; exact ⟨rfl, rfl⟩))
    (fun os started H enc _ => lifted os started H enc)

theorem proved : Rows.CrcSumsCardSaid :=
  Claim7.holds_tied_plain_at .later [] [.data] true (true, "fa76a5a30fb07b11fadbdc9b6887e058170ea6ee560e2a7ce1edd54b56288630") false
    over (fun _ h => by cases h) (by kernel_rfl) (fun _ h => by cases h) crcSums_row_tie rfl ⟨rfl, rfl⟩ (by kernel_rfl) rfl
    (fun f fn hf hfn => by
      obtain rfl : f = 3 := Option.some.inj ((show Tryd.prog.funcNamed "cooperage/cooperagelaw2.CrcSums" = some 3 by kernel_rfl).symm.trans hf) |>.symm
      obtain rfl : fn = Tryd.f3 := (Option.some.inj (Tryd.func3.symm.trans hfn)).symm
      exact ⟨by kernel_rfl, fun j t ht => by
        rw [Tryd.params3] at ht
        have hm : t ∈ [22, 22] := by simpa using Array.mem_of_getElem? ht
        have hall : ([22, 22].all fun u => !Tryd.prog.wantsStandIn u) = true := by kernel_rfl
        exact (show Tryd.prog.wantsStandIn t = false by simpa using List.all_eq_true.1 hall t hm)⟩)
    (by kernel_rfl)
#print axioms proved
end Go.Proofs.YtpjnihcnocckbaaDoor.crcSums
