/- For every two slices of bytes, nil too, and every number of 64 bits the law VarintPuts answers true, and its arguments read as before. No condition. -/
import Derived.Test.YtcdhbmjobahoiaaRows
import Derived.WalkKit
import Derived.ProofKit
import Derived.OpenShut
import Derived.ShutString
import Derived.ChangeOld
import Derived.Below
import Derived.Test.YtcdhbmjobahoiaaPut
import Derived.Test.YtcdhbmjobahoiaaGet
import Derived.Test.YtcdhbmjobahoiaaCame
namespace Go.Proofs.Ytcdhbmjobahoiaa.varintPuts
open Go.ChangeShapes Go.WideShapes Go.ChangeAt Go.RowKit
open Go.ChangeMaps (open_string shut_string)
set_option linter.unusedVariables false

theorem own : ownKnob Try.prog.godebug = none := by kernel_rfl
theorem laidOut : laidOutB Try.prog = true := by kernel_rfl

/-- WHAT THE WALK IS TOLD OF A SLICE OF INTEGERS THAT CAME IN: it is nil; or it leads to a row of 'cap' cells, the numbers 'zs' (the first 'len' are its elements, the rest its spare room), each fitting its kind. -/
def IsRow (k : IntKind) (w : World) (a : Option Addr) (len cap : Nat) (zs : List Int) : Prop :=
  (a = none ∧ len = 0 ∧ cap = 0 ∧ zs = []) ∨
  ∃ x, a = some x ∧ len ≤ cap ∧ cap ≤ maxLen ∧ zs.length = cap ∧ (∀ i, i < zs.length → w.cell? (x.add i) = some (.int k (zs.getD i 0))) ∧ ∀ n ∈ zs, (Lit.int k n).wf = true

set_option maxHeartbeats 1600000 in
theorem walk (a0 : Option Addr) (len0 cap0 : Nat) (z0 : List Int) (a1 : Int) (a2 : Option Addr) (len2 cap2 : Nat) (z2 : List Int) (w : World) (w0 : IsRow .u8 w a0 len0 cap0 z0) (w1 : (Lit.int .u64 a1).wf = true) (w2 : IsRow .u8 w a2 len2 cap2 z2) :
    Calls Try.prog 3 #[.slice a0 len0 cap0, .int .u64 a1, .slice a2 len2 cap2] w fun e w' => e = .returned (.bool true) ∧ Below w.heap.size w w' := by
  obtain ⟨xs, rfl, hc, hm, hl, hwf, hn⟩ := row_came w0
  obtain ⟨ms, rfl, hc', hm', hl', hwf', hn'⟩ := row_came w2
  obtain ⟨x0, x1⟩ := bounds_u64 w1
  have hby : IsBytes xs := fun n hn => bounds_u8 (hwf n hn)
  have hby' : IsBytes ms := fun n hn => bounds_u8 (hwf' n hn)
  clear w0 w1 w2 hwf hwf'
  by_cases h200 : 200 < xs.length
  · have h1 : (200 : Int) < (xs.length : Int) := by omega
    go_enter Try.func3, Try.ntmps3
    go_wp2_with fail
    refine (alive_any w).mono ?_
    rintro e w1 ⟨rfl, hbel⟩
    go_wp2
    go_ret
    exact ⟨rfl, hbel⟩
  by_cases h200' : 200 < ms.length
  · have h1 : ¬ (200 : Int) < (xs.length : Int) := by omega
    have h2 : (200 : Int) < (ms.length : Int) := by omega
    go_enter Try.func3, Try.ntmps3
    go_wp2_with fail
    refine (alive_any w).mono ?_
    rintro e w1 ⟨rfl, hbel⟩
    go_wp2
    go_ret
    exact ⟨rfl, hbel⟩
  have h1 : decide ((200 : Int) < (xs.length : Int)) = false := by simp; omega
  have h2 : decide ((200 : Int) < (ms.length : Int)) = false := by simp; omega
  have HN := Lib.hid hn
  have HN' := Lib.hid hn'
  clear hn hn'
  obtain ⟨i0, hi0, hz0, hz1, hz2⟩ := info_parts byte_info
  go_enter Try.func3, Try.ntmps3
  go_wp2_with fail
  refine (alive_any w).mono ?_
  rintro e w1 ⟨rfl, hbel⟩
  have hl1 := (hl.below hbel).more hbel.size
  go_wp2_with (at_builtin; refine wpList_append_ints rfl (.const (.slice none 0 0)) (.tmp 27) 22 rfl w1.heap.size 5 .u8 i0 1 Try.underlying22 hi0 hz0 hz1 hz2 (by decide) (.slice none 0 0) [] rfl Own.nil w1.heap.size a0 xs.length cap0 xs rfl rfl hc hl1 (by simp; omega) (Nat.le_refl _) HN.out ?_; intro v1 w2 hown hgr hob)
  rw [List.nil_append] at hown
  have hbel2 : Below w1.heap.size w1 w2 := (Own.nil (k := .u8) (e := 5) (w := w1) (base := w1.heap.size)).grown_below hgr (Nat.le_refl _)
  obtain ⟨A, c, rfl, hc2, hm2, hlo⟩ := hown.parts
  clear hgr hown hob
  go_wp2_with fail
  refine (put_any A xs c a1 w2 hlo hc2 (by omega) x0 x1).mono ?_
  rintro e w3 ⟨v3, rfl, hown3, hbel3⟩
  obtain ⟨zs, hzs⟩ : ∃ zs, xs ++ putL a1 = zs := ⟨_, rfl⟩
  rw [hzs] at hown3
  have hpl := putL_length a1
  have hzl : zs.length = xs.length + (putL a1).length := by rw [← hzs, List.length_append]
  have hzd : zs.drop xs.length = putL a1 := by rw [← hzs, List.drop_left]
  obtain ⟨A3, c3, rfl, hc3, hm3, hl3⟩ := hown3.parts
  clear hown3
  have HZ := Lib.hid hzs
  have HZL := Lib.hid hzl
  have HZD := Lib.hid hzd
  have zl1 : xs.length + 1 ≤ zs.length := by omega
  have zl2 : zs.length ≤ xs.length + 10 := by omega
  clear hzs hzl hzd
  have b13 : Below w1.heap.size w1 w3 := hbel2.trans (hbel3.mono hbel2.size)
  have lb3 := (hl1.below b13).more b13.size
  have lo3 := (hlo.below hbel3).more hbel3.size
  have cvz : ∀ (W : World) (B : Nat) (X : Option Addr) (ys : List Int) (d : Nat), Lies .u8 W B X ys → (convert 22 9 (.slice X ys.length d)).run Try.prog W = .ok (.string (textOf ys)) W := fun W B X ys d h => conv_bytes 22 9 5 Try.underlying22 Try.underlying5 Try.underlying9 h d
  have CV := Lib.hid cvz
  clear cvz
  have cv1 := CV.out w3.drew _ A3 zs c3 hl3
  have cva := CV.out w3.drew _ A xs c lo3
  have cvb := CV.out w3.drew _ a0 xs cap0 lb3
  have hrp := refput_any a0 xs cap0 a1 w3.drew lb3 hc HN.out (by omega) x0 x1
  rw [HZ.out] at hrp
  have HRP := Lib.hid hrp
  clear hrp
  have hlt : decide ((zs.length : Int) < (xs.length : Int)) = false := by simp; omega
  go_wp2_with fail
  refine wp_region_held_drew (S := fun W => (convert 22 9 (.slice A3 zs.length c3)).run Try.prog W = .ok (.string (textOf zs)) W ∧ (convert 22 9 (.slice A xs.length c)).run Try.prog W = .ok (.string (textOf xs)) W ∧ (convert 22 9 (.slice a0 xs.length cap0)).run Try.prog W = .ok (.string (textOf xs)) W) (by kernel_rfl) ⟨cv1, cva, cvb⟩ (fun hHeld => ?_)
  refine held_take 0 32 (v := ?v0) rfl rfl (by kernel_rfl) (by kernel_rfl) (by kernel_rfl) (fun _ _ _ h => h) hHeld (Or.inl ⟨by rfl, ?y0⟩) ?r0
  case y0 => intro w hSw; (try dsimp only at hSw); go_simp; (try with_reducible rfl)
  simp only [List.setIfInBounds_toArray, List.set_cons_zero, List.set_cons_succ]
  refine held_take 1 33 (v := ?v1) rfl rfl (by kernel_rfl) (by kernel_rfl) (by kernel_rfl) (fun _ _ _ h => h) hHeld (Or.inl ⟨by rfl, ?y1⟩) ?r1
  case y1 => intro w hSw; (try dsimp only at hSw); go_simp; (try with_reducible rfl)
  simp only [List.setIfInBounds_toArray, List.set_cons_zero, List.set_cons_succ]
  refine held_take 2 34 (v := ?v2) rfl rfl (by kernel_rfl) (by kernel_rfl) (by kernel_rfl) (fun _ _ _ h => h) hHeld (Or.inl ⟨by rfl, ?y2⟩) ?r2
  case y2 => intro w hSw; (try dsimp only at hSw); go_simp; (try with_reducible rfl)
  simp only [List.setIfInBounds_toArray, List.set_cons_zero, List.set_cons_succ]
  refine held_take 3 35 (v := ?v3) rfl rfl (by kernel_rfl) (by kernel_rfl) (by kernel_rfl) (fun _ _ _ h => h) hHeld (Or.inl ⟨by rfl, ?y3⟩) ?r3
  case y3 => intro w hSw; (try dsimp only at hSw); go_simp; (try with_reducible rfl)
  simp only [List.setIfInBounds_toArray, List.set_cons_zero, List.set_cons_succ]
  refine wpAnyH_ready (rs := [4]) (by kernel_rfl) (by simp) ?_
  refine AllReadyH.cons rfl (fun K hK => ?_) AllReadyH.nil
  go_simp
  refine HRP.out.mono ?_
  rintro e w4 ⟨v4, rfl, hown4, hbel4⟩
  have hb4 : Below w3.heap.size w3 w4 := below_undrew hbel4
  obtain ⟨A4, c4, rfl, _, _, hl4⟩ := hown4.parts
  have cv2 := CV.out w4 _ A4 zs c4 hl4
  have cv3 := CV.out w4 _ A3 zs c3 (hl3.below hb4)
  have cv4 := CV.out w4 _ A xs c (lo3.below hb4)
  have cv5 := CV.out w4 _ a0 xs cap0 (lb3.below hb4)
  clear hown4 hl4 hbel4 hHeld cv1 cva cvb HRP
  refine hK.out _ _ ?_ (fun _ => ?_)
  · exact ⟨cv3, cv4, cv5⟩
  clear hK K
  refine wpAnyH_switch (fun W => (convert 22 9 (.slice A4 zs.length c4)).run Try.prog W = .ok (.string (textOf zs)) W ∧ (convert 22 9 (.slice A3 zs.length c3)).run Try.prog W = .ok (.string (textOf zs)) W ∧ (convert 22 9 (.slice A xs.length c)).run Try.prog W = .ok (.string (textOf xs)) W ∧ (convert 22 9 (.slice a0 xs.length cap0)).run Try.prog W = .ok (.string (textOf xs)) W) (fun _ h => h.2) _ _ _ _ ?_
  have hHeld := And.intro cv2 (And.intro cv3 (And.intro cv4 cv5))
  clear cv2 cv3 cv4 cv5
  refine held_take 5 37 (v := ?v5) rfl rfl (by kernel_rfl) (by kernel_rfl) (by kernel_rfl) (fun _ _ _ h => h) hHeld (Or.inl ⟨by rfl, ?y5⟩) ?r5
  case y5 => intro w hSw; (try dsimp only at hSw); go_simp; (try with_reducible rfl)
  simp only [List.setIfInBounds_toArray, List.set_cons_zero, List.set_cons_succ]
  refine held_take 6 38 (v := ?v6) rfl rfl (by kernel_rfl) (by kernel_rfl) (by kernel_rfl) (fun _ _ _ h => h) hHeld (Or.inl ⟨by rfl, ?y6⟩) ?r6
  case y6 => intro w hSw; (try dsimp only at hSw); go_simp; (try with_reducible rfl)
  simp only [List.setIfInBounds_toArray, List.set_cons_zero, List.set_cons_succ]
  refine held_take 7 39 (v := ?v7) rfl rfl (by kernel_rfl) (by kernel_rfl) (by kernel_rfl) (fun _ _ _ h => h) hHeld (Or.inl ⟨by rfl, ?y7⟩) ?r7
  case y7 => intro w hSw; (try dsimp only at hSw); go_simp; (try with_reducible rfl)
  simp only [List.setIfInBounds_toArray, List.set_cons_zero, List.set_cons_succ]
  refine held_take 8 40 (v := ?v8) rfl rfl (by kernel_rfl) (by kernel_rfl) (by kernel_rfl) (fun _ _ _ h => h) hHeld (Or.inl ⟨by rfl, ?y8⟩) ?r8
  case y8 => intro w hSw; (try dsimp only at hSw); go_simp; (try with_reducible rfl)
  simp only [List.setIfInBounds_toArray, List.set_cons_zero, List.set_cons_succ]
  refine held_take 9 41 (v := ?v9) rfl rfl (by kernel_rfl) (by kernel_rfl) (by kernel_rfl) (fun _ _ _ h => h) hHeld (Or.inl ⟨by rfl, ?y9⟩) ?r9
  case y9 => intro w hSw; (try dsimp only at hSw); go_simp; (try with_reducible rfl)
  simp only [List.setIfInBounds_toArray, List.set_cons_zero, List.set_cons_succ]
  refine held_take 10 42 (v := ?v10) rfl rfl (by kernel_rfl) (by kernel_rfl) (by kernel_rfl) (fun _ _ _ h => h) hHeld (Or.inl ⟨by rfl, ?y10⟩) ?r10
  case y10 => intro w hSw; (try dsimp only at hSw); go_simp; (try with_reducible rfl)
  simp only [List.setIfInBounds_toArray, List.set_cons_zero, List.set_cons_succ]
  refine held_take 11 43 (v := ?v11) rfl rfl (by kernel_rfl) (by kernel_rfl) (by kernel_rfl) (fun _ _ _ h => h) hHeld (Or.inl ⟨by rfl, ?y11⟩) ?r11
  case y11 => intro w hSw; (try dsimp only at hSw); go_simp; (try with_reducible rfl)
  simp only [List.setIfInBounds_toArray, List.set_cons_zero, List.set_cons_succ]
  refine held_take 12 44 (v := ?v12) rfl rfl (by kernel_rfl) (by kernel_rfl) (by kernel_rfl) (fun _ _ _ h => h) hHeld (Or.inl ⟨by rfl, ?y12⟩) ?r12
  case y12 => intro w hSw; (try dsimp only at hSw); go_simp; (try with_reducible rfl)
  simp only [List.setIfInBounds_toArray, List.set_cons_zero, List.set_cons_succ]
  refine held_take 13 45 (v := ?v13) rfl rfl (by kernel_rfl) (by kernel_rfl) (by kernel_rfl) (fun _ _ _ h => h) hHeld (Or.inl ⟨by rfl, ?y13⟩) ?r13
  case y13 => intro w hSw; (try dsimp only at hSw); go_simp; (try with_reducible rfl)
  simp only [List.setIfInBounds_toArray, List.set_cons_zero, List.set_cons_succ]
  refine held_take 14 46 (v := ?v14) rfl rfl (by kernel_rfl) (by kernel_rfl) (by kernel_rfl) (fun _ _ _ h => h) hHeld (Or.inl ⟨by rfl, ?y14⟩) ?r14
  case y14 => intro w hSw; (try dsimp only at hSw); go_simp; (try with_reducible rfl)
  simp only [List.setIfInBounds_toArray, List.set_cons_zero, List.set_cons_succ]
  refine held_take 15 47 (v := ?v15) rfl rfl (by kernel_rfl) (by kernel_rfl) (by kernel_rfl) (fun _ _ _ h => h) hHeld (Or.inl ⟨by rfl, ?y15⟩) ?r15
  case y15 => intro w hSw; (try dsimp only at hSw); go_simp; (try with_reducible rfl)
  simp only [List.setIfInBounds_toArray, List.set_cons_zero, List.set_cons_succ]
  refine held_take 16 48 (v := ?v16) rfl rfl (by kernel_rfl) (by kernel_rfl) (by kernel_rfl) (fun _ _ _ h => h) hHeld (Or.inl ⟨by rfl, ?y16⟩) ?r16
  case y16 => intro w hSw; (try dsimp only at hSw); go_simp; (try with_reducible rfl)
  simp only [List.setIfInBounds_toArray, List.set_cons_zero, List.set_cons_succ]
  refine held_take 17 49 (v := ?v17) rfl rfl (by kernel_rfl) (by kernel_rfl) (by kernel_rfl) (fun _ _ _ h => h) hHeld (Or.inl ⟨by rfl, ?y17⟩) ?r17
  case y17 => intro w hSw; (try dsimp only at hSw); go_simp; (try with_reducible rfl)
  simp only [List.setIfInBounds_toArray, List.set_cons_zero, List.set_cons_succ]
  refine held_take 18 50 (v := ?v18) rfl rfl (by kernel_rfl) (by kernel_rfl) (by kernel_rfl) (fun _ _ _ h => h) hHeld (Or.inl ⟨by rfl, ?y18⟩) ?r18
  case y18 => intro w hSw; (try dsimp only at hSw); go_simp; (try with_reducible rfl)
  simp only [List.setIfInBounds_toArray, List.set_cons_zero, List.set_cons_succ]
  refine held_take 19 51 (v := ?v19) rfl rfl (by kernel_rfl) (by kernel_rfl) (by kernel_rfl) (fun _ _ _ h => h) hHeld (Or.inl ⟨by rfl, ?y19⟩) ?r19
  case y19 => intro w hSw; (try dsimp only at hSw); go_simp; (try with_reducible rfl)
  simp only [List.setIfInBounds_toArray, List.set_cons_zero, List.set_cons_succ]
  refine held_take 20 52 (v := ?v20) rfl rfl (by kernel_rfl) (by kernel_rfl) (by kernel_rfl) (fun _ _ _ h => h) hHeld (Or.inl ⟨by rfl, ?y20⟩) ?r20
  case y20 => intro w hSw; (try dsimp only at hSw); go_simp; (try with_reducible rfl)
  simp only [List.setIfInBounds_toArray, List.set_cons_zero, List.set_cons_succ]
  refine wpAnyH_done (by kernel_rfl) ?_ _
  clear hHeld
  have hl5 := (hl3.below hb4).cut (n := xs.length) hc3
  obtain ⟨b3, off3, rfl, _, _⟩ := hl3.at_ (j := 0) (by omega)
  rw [HZD.out, if_neg (by omega), Option.map_some, add_lit] at hl5
  have b14 : Below w1.heap.size w1 w4 := b13.trans (hb4.mono b13.size)
  have bw4 : Below w.heap.size w w4 := hbel.trans (b14.mono hbel.size)
  have hms := hl'.below bw4
  have z1 := Lib.hid (show (putL a1).length = zs.length - xs.length by have := HZL.out; omega)
  have hgp := getR_putL a1 ms x0 x1
  have hsub : ((zs.length : Int) - (xs.length : Int)) = ((putL a1).length : Int) := by have := HZL.out; omega
  obtain ⟨ps, hps⟩ : ∃ ps, putL a1 = ps := ⟨_, rfl⟩
  have hpb : IsBytes ps := by rw [← hps]; exact putL_range a1 x0 x1
  rw [hps] at hl5 z1 hgp hpl hsub
  have HGP := Lib.hid hgp
  have hcx : ¬ c3 = xs.length := by omega
  have heq : ((ps.length : Int) == (zs.length : Int) - (xs.length : Int)) = true := by rw [hsub]; simp
  have hxx : (a1 == a1) = true := by simp
  clear hgp hps hl hl1 hl3 hlo lb3 lo3 CV HN HZ HZL HZD hlt hsub
  go_wp2_with (first
    | (at_builtin; refine wpList_append_ints rfl (.const (.slice none 0 0)) (.tmp 57) 22 rfl w4.heap.size 5 .u8 i0 1 Try.underlying22 hi0 hz0 hz1 hz2 (by decide) (.slice none 0 0) [] rfl Own.nil w3.heap.size (some ⟨b3, off3 + xs.length, none⟩) (zs.length - xs.length) (c3 - xs.length) ps rfl z1.out (by omega) hl5 (by simp; omega) (Nat.le_refl _) (by simp) ?_; intro v5 w5 hown5 hgr5 hob5; rw [List.nil_append] at hown5; have b45 : Below w4.heap.size w4 w5 := (Own.nil (k := .u8) (e := 5) (w := w4) (base := w4.heap.size)).grown_below hgr5 (Nat.le_refl _); have hms5 := hms.below (b45.mono bw4.size); clear hgr5 hob5)
    | (at_builtin; refine wpList_append_ints rfl (.tmp 58) (.tmp 59) 22 rfl w4.heap.size 5 .u8 i0 1 Try.underlying22 hi0 hz0 hz1 hz2 (by decide) v5 ps rfl hown5 w.heap.size a2 ms.length cap2 ms rfl rfl hc' hms5 (by omega) b45.size HN'.out ?_; intro v6 w6 hown6 hgr6 hob6; have b56 := hown5.grown_below hgr6 b45.size; clear hgr6 hob6; obtain ⟨A6, c6, rfl, hc6, hm6, hl6⟩ := hown6.parts))
  have hby6 : IsBytes (ps ++ ms) := fun q hq => by
    rcases List.mem_append.1 hq with h | h
    · exact hpb q h
    · exact hby' q h
  have hget := get_any A6 (ps ++ ms) c6 w6 hl6 hby6
  rw [HGP.out] at hget
  rw [List.length_append] at hget
  refine hget.mono ?_
  rintro e w7 ⟨rfl, rfl⟩
  clear hget hown6 hl6
  go_wp2_with fail
  refine (num_any _ _).mono ?_
  rintro e w7 ⟨rfl, rfl⟩
  go_wp2
  go_ret
  exact ⟨rfl, bw4.trans ((b45.mono bw4.size).trans (b56.mono bw4.size))⟩

set_option maxRecDepth 100000 in
theorem lifted (os : Os) (started : os.Started) (H : Type) (enc : TypeId × Value → H) :
    ReturnsInHanded {} Try.checked os 3 .any (Rows.varintPutsSpec.pre6 enc Try.prog Try.f3 Rows.varintPutsRow.domain false) (Rows.varintPutsSpec.post enc Try.prog Try.f3 false true false false) := by
  refine returnsInHanded_of_change (C := Try.checked) own started (by kernel_rfl) Try.func3
    (ChangeSpec.witness6 (enc := enc) (C := Try.checked) false ⟨#[], #[.slice none 0 0, .int .u64 0, .slice none 0 0], []⟩ 8 (by kernel_rfl) (by kernel_rfl) (by kernel_rfl) (by kernel_rfl)) ?_
  intro W base args ds gs before hval0 hW hcnd _
  have hval : ∀ (j : Nat) t v, Try.f3.params[j]? = some t → args[j]? = some v → Value.okWide Try.prog W .any base t v := hval0
  have hW' := hW
  obtain ⟨p, q, hA0, hV, rfl, hfz, hnd⟩ := hW
  have hA : DataW.TrodAll enc Try.prog W 0 (fun _ => true) true Try.f3.params.toList args.toList ds p := hA0
  rw [Try.params3] at hA hval
  obtain ⟨v0, vs0, d0, ds0, p0, q0, hargs, rfl, rfl, h0, r0⟩ := trodAll_cons hA
  obtain ⟨v1, vs1, d1, ds1, p1, q1, rfl, rfl, rfl, h1, r1⟩ := trodAll_cons r0
  obtain ⟨v2, vs2, d2, ds2, p2, q2, rfl, rfl, rfl, h2, r2⟩ := trodAll_cons r1
  obtain ⟨rfl, rfl, rfl⟩ := trodAll_nil r2
  obtain rfl : args = #[v0, v1, v2] := by cases args; simp_all
  obtain ⟨rfl, rfl⟩ := trodVars_none hV
  obtain ⟨a0, len0, cap0, rfl⟩ := okWide_slice Try.underlying22 (hval 0 22 v0 rfl rfl)
  have k0 := h0
  have lt0 : ∀ x ∈ p0, x.block < W.heap.size := by obtain ⟨m, hm⟩ := k0; exact DataW.trod_lt m _ _ _ hm
  obtain ⟨z0, w0⟩ : ∃ zs, IsRow .u8 W a0 len0 cap0 zs := by
    obtain ⟨fuel, hf⟩ := h0
    rcases open_ints Try.underlying22 Try.underlying5 (by kernel_rfl) hf with ⟨hcs, _⟩ | ⟨x, l, c, zs, hcs, _, hl, hm, hz, _, hcell, hwz⟩
    · simp [Value.cells] at hcs
      obtain ⟨rfl, rfl, rfl⟩ := hcs
      exact ⟨[], .inl ⟨rfl, rfl, rfl, rfl⟩⟩
    · simp [Value.cells] at hcs
      obtain ⟨rfl, rfl, rfl⟩ := hcs
      exact ⟨zs, .inr ⟨_, rfl, hl, hm, by simpa using hz, hcell, hwz⟩⟩
  obtain ⟨a1, rfl, rfl, rfl, w1⟩ := open_int Try.underlying23 (hval 1 23 v1 rfl rfl) h1
  obtain ⟨a2, len2, cap2, rfl⟩ := okWide_slice Try.underlying22 (hval 2 22 v2 rfl rfl)
  have k2 := h2
  have lt2 : ∀ x ∈ p2, x.block < W.heap.size := by obtain ⟨m, hm⟩ := k2; exact DataW.trod_lt m _ _ _ hm
  obtain ⟨z2, w2⟩ : ∃ zs, IsRow .u8 W a2 len2 cap2 zs := by
    obtain ⟨fuel, hf⟩ := h2
    rcases open_ints Try.underlying22 Try.underlying5 (by kernel_rfl) hf with ⟨hcs, _⟩ | ⟨x, l, c, zs, hcs, _, hl, hm, hz, _, hcell, hwz⟩
    · simp [Value.cells] at hcs
      obtain ⟨rfl, rfl, rfl⟩ := hcs
      exact ⟨[], .inl ⟨rfl, rfl, rfl, rfl⟩⟩
    · simp [Value.cells] at hcs
      obtain ⟨rfl, rfl, rfl⟩ := hcs
      exact ⟨zs, .inr ⟨_, rfl, hl, hm, by simpa using hz, hcell, hwz⟩⟩
  clear hA0 hval0
  refine (walk a0 len0 cap0 z0 a1 a2 len2 cap2 z2 W w0 w1 w2).mono fun e W' ⟨he, bel⟩ => ?_
  subst he
  exact ⟨_, rfl, _, _, _, [], _, [], hW', trodAll_mk1 (shut_bool Try.underlying4 _), (trodAll_cons_mk (Below.trod laidOut (by kernel_rfl) (of_decide_eq_true (by kernel_rfl)) k0 bel lt0) (trodAll_cons_mk (shut_int Try.underlying23 w1) (trodAll_cons_mk (Below.trod laidOut (by kernel_rfl) (of_decide_eq_true (by kernel_rfl)) k2 bel lt2) trodAll_mk0))), rfl, bel.frame _, fun h => by cases h⟩

theorem over : Rows.varintPutsRow.holds Try.pinned (OpenSpec.ofChange Rows.varintPutsSpec) :=
  OpenClaim.holds_of_wide 3 Try.f3 rfl rfl rfl rfl rfl rfl rfl ⟨rfl, rfl, rfl, rfl, rfl⟩ rfl rfl rfl rfl rfl (by kernel_rfl) Try.func3 (by kernel_rfl)
    (of_decide_eq_true (by kernel_rfl)) (by unfold Func.isWrapper; first | (rw [if_pos (by decide +kernel)]; kernel_rfl) | (rw [if_neg (by decide +kernel)]; exact ⟨rfl, rfl⟩))
    (fun os started H enc _ => lifted os started H enc)

theorem proved : Rows.VarintPutsSaid := over
#print axioms proved
end Go.Proofs.Ytcdhbmjobahoiaa.varintPuts
