/- Proved: for every list of bytes b, every record r and every further bytes more, RecordPuts(b, r, more) returns true: record.Put writes r behind b as the document's own PutRecord does, record.Right tells what it tells, record.Size is how many bytes that are, nothing is written of a record that is not right, and record.Get reads it as it was, whatever stands behind; for b and more of at most 200 bytes, keys of at most 300 and values of at most 2100. Conditions: none. -/
import Derived.Test.YtdhahjkldmbneaaRows
import Derived.WalkKit
import Derived.ProofKit
import Derived.OpenShut
import Derived.ShutString
import Derived.ChangeOld
import Derived.Below
import Derived.Test.YtdhahjkldmbneaaRecAlive
import Derived.Test.YtdhahjkldmbneaaRecCame
import Derived.Test.YtdhahjkldmbneaaRRecPut
import Derived.Test.YtdhahjkldmbneaaCame
namespace Go.Proofs.Ytdhahjkldmbneaa.recordPuts
open Go.ChangeShapes Go.WideShapes Go.ChangeAt Go.RowKit
open Go.ChangeMaps (open_string shut_string)
set_option linter.unusedVariables false

theorem own : ownKnob Try.prog.godebug = none := by kernel_rfl
theorem laidOut : laidOutB Try.prog = true := by kernel_rfl

def IsRow (k : IntKind) (w : World) (a : Option Addr) (len cap : Nat) (zs : List Int) : Prop :=
  (a = none ∧ len = 0 ∧ cap = 0 ∧ zs = []) ∨
  ∃ x, a = some x ∧ len ≤ cap ∧ cap ≤ maxLen ∧ zs.length = cap ∧ (∀ i, i < zs.length → w.cell? (x.add i) = some (.int k (zs.getD i 0))) ∧ ∀ n ∈ zs, (Lit.int k n).wf = true

set_option maxRecDepth 100000 in
set_option maxHeartbeats 8000000 in
theorem walk (a0 : Option Addr) (len0 cap0 : Nat) (z0 : List Int) (a1 : Rec) (a2 : Option Addr) (len2 cap2 : Nat) (z2 : List Int) (w : World) (w0 : IsRow .u8 w a0 len0 cap0 z0) (w1 : a1.wf) (w2 : IsRow .u8 w a2 len2 cap2 z2) :
    Calls Try.prog 3 #[.slice a0 len0 cap0, recV a1, .slice a2 len2 cap2] w fun e w' => e = .returned (.bool true) ∧ Below w.heap.size w w' := by
  obtain ⟨xs, rfl, hc, hm, hl, hwf, hn⟩ := row_came w0
  obtain ⟨ms, rfl, hc', hm', hl', hwf', hn'⟩ := row_came w2
  have hby : IsBytes xs := fun n hn => bounds_u8 (hwf n hn)
  have hby' : IsBytes ms := fun n hn => bounds_u8 (hwf' n hn)
  have hbx := Boxed.new w a1 24
  have hba : Below w.heap.size w (w.alloc (.cells #[.int .i64 a1.off, .int .i64 a1.time, .string a1.key, .string a1.val, .bool a1.dead] 24)) := (Below.refl _ _).alloc (Nat.le_refl _) _
  have HBX := Lib.hid hbx
  have HBA := Lib.hid hba
  clear hbx hba w0 w2 hwf hwf'
  have HWF := Lib.hid w1
  have HL := Lib.hid hl
  have HL' := Lib.hid hl'
  have HN := Lib.hid hn
  have HN' := Lib.hid hn'
  clear w1 hl hl' hn hn'
  unfold recV
  by_cases h1 : (200 : Int) < (xs.length : Int)
  · go_enter Try.func3, Try.ntmps3
    go_wp2_with fail
    refine (alive_any _).mono ?_
    rintro e w1 ⟨rfl, hb1⟩
    obtain ⟨p0, p1, p2, p3, p4, p5⟩ := HBX.out.below hb1 HBX.out.lt
    go_wp2
    go_ret
    exact ⟨rfl, HBA.out.trans (hb1.mono HBA.out.size)⟩
  by_cases h2 : (200 : Int) < (ms.length : Int)
  · go_enter Try.func3, Try.ntmps3
    go_wp2_with fail
    refine (alive_any _).mono ?_
    rintro e w1 ⟨rfl, hb1⟩
    obtain ⟨p0, p1, p2, p3, p4, p5⟩ := HBX.out.below hb1 HBX.out.lt
    go_wp2
    go_ret
    exact ⟨rfl, HBA.out.trans (hb1.mono HBA.out.size)⟩
  by_cases h3 : (300 : Int) < (a1.key.size : Int)
  · go_enter Try.func3, Try.ntmps3
    go_wp2_with fail
    refine (alive_any _).mono ?_
    rintro e w1 ⟨rfl, hb1⟩
    obtain ⟨p0, p1, p2, p3, p4, p5⟩ := HBX.out.below hb1 HBX.out.lt
    go_wp2
    go_ret
    exact ⟨rfl, HBA.out.trans (hb1.mono HBA.out.size)⟩
  by_cases h4 : (2100 : Int) < (a1.val.size : Int)
  · go_enter Try.func3, Try.ntmps3
    go_wp2_with fail
    refine (alive_any _).mono ?_
    rintro e w1 ⟨rfl, hb1⟩
    obtain ⟨p0, p1, p2, p3, p4, p5⟩ := HBX.out.below hb1 HBX.out.lt
    go_wp2
    go_ret
    exact ⟨rfl, HBA.out.trans (hb1.mono HBA.out.size)⟩
  have d1 := decide_eq_false h1
  have d2 := decide_eq_false h2
  have d3 := decide_eq_false h3
  have d4 := decide_eq_false h4
  obtain ⟨i0, hi0, hz0, hz1, hz2⟩ := info_parts byte_info
  obtain ⟨zs, hzs⟩ : ∃ zs, xs ++ putR a1 = zs := ⟨_, rfl⟩
  have hpl := putR_length a1
  have HZ := Lib.hid hzs
  have hzl : zs.length = xs.length + (putR a1).length := by rw [← hzs, List.length_append]
  have HZL := Lib.hid hzl
  have zl1 : xs.length ≤ zs.length := by omega
  have zl2 : zs.length ≤ 2600 := by omega
  clear hzs hzl hpl
  go_enter Try.func3, Try.ntmps3
  go_wp2_with fail
  refine (alive_any _).mono ?_
  rintro e w1 ⟨rfl, hb1⟩
  have hbx1 := HBX.out.below hb1 HBX.out.lt
  have hbw1 : Below w.heap.size w w1 := HBA.out.trans (hb1.mono HBA.out.size)
  have hl1 := (HL.out.below hbw1).more hbw1.size
  obtain ⟨p0, p1, p2, p3, p4, p5⟩ := hbx1
  clear hb1
  go_wp2_with fail
  refine wp_region_held_drew (S := fun W => W.cell? ⟨w.heap.size, 0, none⟩ = some (.int .i64 a1.off) ∧ W.cell? ⟨w.heap.size, 1, none⟩ = some (.int .i64 a1.time) ∧ W.cell? ⟨w.heap.size, 2, none⟩ = some (.string a1.key) ∧ W.cell? ⟨w.heap.size, 3, none⟩ = some (.string a1.val) ∧ W.cell? ⟨w.heap.size, 4, none⟩ = some (.bool a1.dead)) (by kernel_rfl) ⟨p1, p2, p3, p4, p5⟩ (fun hHeld => ?_)
  refine held_take 0 39 (v := ?v101) rfl rfl (by kernel_rfl) (by kernel_rfl) (by kernel_rfl) (fun _ _ _ h => h) hHeld (Or.inl ⟨by rfl, ?y101⟩) ?r101
  case y101 => intro w hSw; (try dsimp only at hSw); go_simp; (try with_reducible rfl)
  simp only [List.setIfInBounds_toArray, List.set_cons_zero, List.set_cons_succ]
  refine held_take 2 41 (v := ?v102) rfl rfl (by kernel_rfl) (by kernel_rfl) (by kernel_rfl) (fun _ _ _ h => h) hHeld (Or.inl ⟨by rfl, ?y102⟩) ?r102
  case y102 => intro w hSw; (try dsimp only at hSw); go_simp; (try with_reducible rfl)
  simp only [List.setIfInBounds_toArray, List.set_cons_zero, List.set_cons_succ]
  refine wpAnyH_ready (rs := [1]) (by kernel_rfl) (by simp) ?_
  refine AllReadyH.cons (o := ⟨some 40, _, _, _, _, _⟩) rfl (fun K hK => ?_) AllReadyH.nil
  rw [if_pos (by rfl)]
  refine wp_append_ints (.const (.slice none 0 0)) (.tmp 39) 22 rfl w1.heap.size 5 .u8 i0 1 Try.underlying22 hi0 hz0 hz1 hz2 (by decide) (.slice none 0 0) [] rfl Own.nil w1.heap.size a0 xs.length cap0 xs rfl rfl hc (hl1.drewN 1) (by simp; omega) (Nat.le_refl _) HN.out ?_
  intro v2 w2 hown2 hgr2
  rw [List.nil_append] at hown2
  have hb2 : Below w1.heap.size w1 w2 := below_undrew ((Own.nil (k := .u8) (e := 5) (w := w1.drew) (base := w1.heap.size)).grown_below hgr2 (Nat.le_refl _))
  obtain ⟨q0, q1, q2, q3, q4, q5⟩ := (Boxed.mk p0 p1 p2 p3 p4 p5).below hb2 p0
  refine hK.out _ _ ⟨q1, q2, q3, q4, q5⟩ (fun _ => ?_)
  clear hK K hHeld hgr2
  simp only [Act.put, List.setIfInBounds_toArray, List.set_cons_zero, List.set_cons_succ]
  obtain ⟨A2, c2, rfl, hc2, hm2, hl2, hn2⟩ := hown2.parts2
  have hput := rput_any A2 xs c2 a1 w2 HWF.out hl2 hc2 hm2 hn2 (by omega)
  rw [HZ.out] at hput
  unfold recV at hput
  have HPUT := Lib.hid hput
  clear hput
  refine wpAnyH_ready (rs := [3]) (by kernel_rfl) (by simp) ?_
  refine AllReadyH.cons rfl (fun K hK => ?_) AllReadyH.nil
  go_simp
  refine HPUT.out.mono ?_
  rintro e w3 ⟨A3, c3, rfl, hc3, hm3, hn3, hl3, hb3⟩
  have hbx3 := (Boxed.mk q0 q1 q2 q3 q4 q5).below hb3 q0
  clear q1 q2 q3 q4 q5 p1 p2 p3 p4 p5 HPUT hown2 hl2
  obtain ⟨s0, s1, s2, s3, s4, s5⟩ := hbx3
  refine hK.out _ _ ⟨s1, s2, s3, s4, s5⟩ (fun _ => ?_)
  clear hK K
  have hHeld := And.intro s1 (And.intro s2 (And.intro s3 (And.intro s4 s5)))
  refine held_take 4 8 (v := ?v103) rfl rfl (by kernel_rfl) (by kernel_rfl) (by kernel_rfl) (fun _ _ _ h => h) hHeld (Or.inl ⟨by rfl, ?y103⟩) ?r103
  case y103 => intro w hSw; (try dsimp only at hSw); go_simp; (try with_reducible rfl)
  simp only [List.setIfInBounds_toArray, List.set_cons_zero, List.set_cons_succ]
  refine wpAnyH_done (by kernel_rfl) ?_ _
  clear hHeld
  have hbw3 : Below w.heap.size w w3 := hbw1.trans ((hb2.mono hbw1.size).trans (hb3.mono (by have := hbw1.size; have := hb2.size; omega)))
  have hl3b := (HL.out.below hbw3).more hbw3.size
  clear hl1 hb2 hb3 hbw1
  have hright := rright_any a1 w3 HWF.out
  unfold recV at hright
  obtain ⟨ok, hok⟩ : ∃ ok, decide a1.right = ok := ⟨_, rfl⟩
  rw [hok] at hright
  have HOK := Lib.hid hok
  have HRIGHT := Lib.hid hright
  clear hok hright
  go_wp2_with fail
  refine HRIGHT.out.mono ?_
  rintro e w4 ⟨rfl, hb4⟩
  have hbx4 := (Boxed.mk s0 s1 s2 s3 s4 s5).below hb4 s0
  have hl4 := (hl3.below hb4).more hb4.size
  have hl4b := (hl3b.below hb4).more hb4.size
  have hbw4 : Below w.heap.size w w4 := hbw3.trans (hb4.mono hbw3.size)
  clear s1 s2 s3 s4 s5 hl3 hl3b hb4 HRIGHT hbw3
  obtain ⟨t0, t1, t2, t3, t4, t5⟩ := hbx4
  obtain ⟨TZ, hTZ⟩ : ∃ TZ, textOf zs = TZ := ⟨_, rfl⟩
  have cvz : ∀ (W : World) (B : Nat) (X : Option Addr) (d : Nat), Lies .u8 W B X zs → (convert 22 9 (.slice X zs.length d)).run Try.prog W = .ok (.string TZ) W := fun W B X d h => by
    rw [← hTZ]
    exact conv_bytes 22 9 5 Try.underlying22 Try.underlying5 Try.underlying9 h d
  have CV := Lib.hid cvz
  have HTZ := Lib.hid hTZ
  clear cvz hTZ
  have hrr := refright_any a1 w4.drew
  rw [HOK.out] at hrr
  unfold recV at hrr
  have HRR := Lib.hid hrr
  have hrp := fun W h => refputrec_any a0 xs cap0 a1 W h hc HN.out (by omega)
  rw [HZ.out] at hrp
  unfold recV at hrp
  have HRP := Lib.hid hrp
  have hsz := fun W => rsize_any a1 W HWF.out
  obtain ⟨L, hL⟩ : ∃ L, (putR a1).length = L := ⟨_, rfl⟩
  simp only [hL] at hsz
  unfold recV at hsz
  have HSZ := Lib.hid hsz
  have hls : ((zs.length : Int) - (xs.length : Int)) = (L : Int) := by have := HZL.out; omega
  have hwl : IntKind.i64.wrap (L : Int) = (L : Int) := wrap_len L (by have := putR_length a1; omega)
  have hoo : (ok != ok) = false := by simp
  have hll : ((L : Int) != (L : Int)) = false := by simp
  have HLE := Lib.hid hL
  clear hrr hrp hsz hL
  go_wp2_with fail
  refine wp_region_held_drew (S := fun W => (W.cell? ⟨w.heap.size, 0, none⟩ = some (.int .i64 a1.off) ∧ W.cell? ⟨w.heap.size, 1, none⟩ = some (.int .i64 a1.time) ∧ W.cell? ⟨w.heap.size, 2, none⟩ = some (.string a1.key) ∧ W.cell? ⟨w.heap.size, 3, none⟩ = some (.string a1.val) ∧ W.cell? ⟨w.heap.size, 4, none⟩ = some (.bool a1.dead)) ∧ (convert 22 9 (.slice A3 zs.length c3)).run Try.prog W = .ok (.string TZ) W) (by kernel_rfl) ⟨⟨t1, t2, t3, t4, t5⟩, CV.out w4.drew _ A3 c3 (hl4.drewN 1)⟩ (fun hHeld => ?_)
  refine held_take 0 45 (v := ?v104) rfl rfl (by kernel_rfl) (by kernel_rfl) (by kernel_rfl) (fun _ _ _ h => h) hHeld (Or.inl ⟨by rfl, ?y104⟩) ?r104
  case y104 => intro w hSw; (try dsimp only at hSw); go_simp; (try with_reducible rfl)
  simp only [List.setIfInBounds_toArray, List.set_cons_zero, List.set_cons_succ]
  refine held_take 1 46 (v := ?v105) rfl rfl (by kernel_rfl) (by kernel_rfl) (by kernel_rfl) (fun _ _ _ h => h) hHeld (Or.inl ⟨by rfl, ?y105⟩) ?r105
  case y105 => intro w hSw; (try dsimp only at hSw); go_simp; (try with_reducible rfl)
  simp only [List.setIfInBounds_toArray, List.set_cons_zero, List.set_cons_succ]
  refine wpAnyH_ready (rs := [2]) (by kernel_rfl) (by simp) ?_
  refine AllReadyH.cons rfl (fun K hK => ?_) AllReadyH.nil
  go_simp
  refine HRR.out.mono ?_
  rintro e w5 ⟨rfl, hb5d⟩
  have hb5 : Below w4.heap.size w4 w5 := below_undrew hb5d
  have hbx5 := (Boxed.mk t0 t1 t2 t3 t4 t5).below hb5 t0
  have hl5 := (hl4.below hb5).more hb5.size
  have hl5b := (hl4b.below hb5).more hb5.size
  have hbw5 : Below w.heap.size w w5 := hbw4.trans (hb5.mono hbw4.size)
  clear t1 t2 t3 t4 t5 hl4 hl4b hb5d hb5 HRR hbw4 hHeld
  obtain ⟨u0, u1, u2, u3, u4, u5⟩ := hbx5
  have hHeld := And.intro (And.intro u1 (And.intro u2 (And.intro u3 (And.intro u4 u5)))) (CV.out w5 _ A3 c3 hl5)
  refine hK.out _ _ hHeld (fun _ => ?_)
  clear hK K
  refine held_take 3 48 (v := ?v106) rfl rfl (by kernel_rfl) (by kernel_rfl) (by kernel_rfl) (fun _ _ _ h => h) hHeld (Or.inl ⟨by rfl, ?y106⟩) ?r106
  case y106 => intro w hSw; (try dsimp only at hSw); go_simp; (try with_reducible rfl)
  simp only [List.setIfInBounds_toArray, List.set_cons_zero, List.set_cons_succ]
  refine held_take 4 49 (v := ?v107) rfl rfl (by kernel_rfl) (by kernel_rfl) (by kernel_rfl) (fun _ _ _ h => h) hHeld (Or.inl ⟨by rfl, ?y107⟩) ?r107
  case y107 => intro w hSw; (try dsimp only at hSw); go_simp; (try with_reducible rfl)
  simp only [List.setIfInBounds_toArray, List.set_cons_zero, List.set_cons_succ]
  refine held_take 5 50 (v := ?v108) rfl rfl (by kernel_rfl) (by kernel_rfl) (by kernel_rfl) (fun _ _ _ h => h) hHeld (Or.inl ⟨by rfl, ?y108⟩) ?r108
  case y108 => intro w hSw; (try dsimp only at hSw); go_simp; (try with_reducible rfl)
  simp only [List.setIfInBounds_toArray, List.set_cons_zero, List.set_cons_succ]
  refine held_take 6 51 (v := ?v109) rfl rfl (by kernel_rfl) (by kernel_rfl) (by kernel_rfl) (fun _ _ _ h => h) hHeld (Or.inl ⟨by rfl, ?y109⟩) ?r109
  case y109 => intro w hSw; (try dsimp only at hSw); go_simp; (try with_reducible rfl)
  simp only [List.setIfInBounds_toArray, List.set_cons_zero, List.set_cons_succ]
  refine held_take 7 52 (v := ?v110) rfl rfl (by kernel_rfl) (by kernel_rfl) (by kernel_rfl) (fun _ _ _ h => h) hHeld (Or.inl ⟨by rfl, ?y110⟩) ?r110
  case y110 => intro w hSw; (try dsimp only at hSw); go_simp; (try with_reducible rfl)
  simp only [List.setIfInBounds_toArray, List.set_cons_zero, List.set_cons_succ]
  refine held_take 8 53 (v := ?v111) rfl rfl (by kernel_rfl) (by kernel_rfl) (by kernel_rfl) (fun _ _ _ h => h) hHeld (Or.inl ⟨by rfl, ?y111⟩) ?r111
  case y111 => intro w hSw; (try dsimp only at hSw); go_simp; (try with_reducible rfl)
  simp only [List.setIfInBounds_toArray, List.set_cons_zero, List.set_cons_succ]
  refine wpAnyH_ready (rs := [9]) (by kernel_rfl) (by simp) ?_
  refine AllReadyH.cons rfl (fun K hK => ?_) AllReadyH.nil
  go_simp
  refine (HRP.out w5 hl5b).mono ?_
  rintro e w6 ⟨v6, rfl, hown6, hb6⟩
  obtain ⟨A6, c6, rfl, hc6, hm6, hl6, hn6⟩ := hown6.parts2
  have hbx6 := (Boxed.mk u0 u1 u2 u3 u4 u5).below hb6 u0
  have hl6c := (hl5.below hb6).more hb6.size
  have hl6b := (hl5b.below hb6).more hb6.size
  have hbw6 : Below w.heap.size w w6 := hbw5.trans (hb6.mono hbw5.size)
  clear u1 u2 u3 u4 u5 hl5 hl5b hown6 HRP hbw5 hHeld
  obtain ⟨x0, x1, x2, x3, x4, x5⟩ := hbx6
  have hHeld := And.intro (And.intro x1 (And.intro x2 (And.intro x3 (And.intro x4 x5)))) (CV.out w6 _ A3 c3 hl6c)
  refine hK.out _ _ hHeld (fun _ => ?_)
  clear hK K
  refine wpAnyH_switch (fun W => (convert 22 9 (.slice A6 zs.length c6)).run Try.prog W = .ok (.string TZ) W ∧ (W.cell? ⟨w.heap.size, 0, none⟩ = some (.int .i64 a1.off) ∧ W.cell? ⟨w.heap.size, 1, none⟩ = some (.int .i64 a1.time) ∧ W.cell? ⟨w.heap.size, 2, none⟩ = some (.string a1.key) ∧ W.cell? ⟨w.heap.size, 3, none⟩ = some (.string a1.val) ∧ W.cell? ⟨w.heap.size, 4, none⟩ = some (.bool a1.dead)) ∧ (convert 22 9 (.slice A3 zs.length c3)).run Try.prog W = .ok (.string TZ) W) (fun _ h => h.2) _ _ _ _ ?_
  have hHeld := And.intro (CV.out w6 _ A6 c6 hl6) hHeld
  refine held_take 10 55 (v := ?v112) rfl rfl (by kernel_rfl) (by kernel_rfl) (by kernel_rfl) (fun _ _ _ h => h) hHeld (Or.inl ⟨by rfl, ?y112⟩) ?r112
  case y112 => intro w hSw; (try dsimp only at hSw); go_simp; (try with_reducible rfl)
  simp only [List.setIfInBounds_toArray, List.set_cons_zero, List.set_cons_succ]
  refine held_take 11 56 (v := ?v113) rfl rfl (by kernel_rfl) (by kernel_rfl) (by kernel_rfl) (fun _ _ _ h => h) hHeld (Or.inl ⟨by rfl, ?y113⟩) ?r113
  case y113 => intro w hSw; (try dsimp only at hSw); go_simp; (try with_reducible rfl)
  simp only [List.setIfInBounds_toArray, List.set_cons_zero, List.set_cons_succ]
  refine held_take 12 57 (v := ?v114) rfl rfl (by kernel_rfl) (by kernel_rfl) (by kernel_rfl) (fun _ _ _ h => h) hHeld (Or.inl ⟨by rfl, ?y114⟩) ?r114
  case y114 => intro w hSw; (try dsimp only at hSw); go_simp; (try with_reducible rfl)
  simp only [List.setIfInBounds_toArray, List.set_cons_zero, List.set_cons_succ]
  refine held_take 13 58 (v := ?v115) rfl rfl (by kernel_rfl) (by kernel_rfl) (by kernel_rfl) (fun _ _ _ h => h) hHeld (Or.inl ⟨by rfl, ?y115⟩) ?r115
  case y115 => intro w hSw; (try dsimp only at hSw); go_simp; (try with_reducible rfl)
  simp only [List.setIfInBounds_toArray, List.set_cons_zero, List.set_cons_succ]
  refine held_take 14 59 (v := ?v116) rfl rfl (by kernel_rfl) (by kernel_rfl) (by kernel_rfl) (fun _ _ _ h => h) hHeld (Or.inl ⟨by rfl, ?y116⟩) ?r116
  case y116 => intro w hSw; (try dsimp only at hSw); go_simp; (try with_reducible rfl)
  simp only [List.setIfInBounds_toArray, List.set_cons_zero, List.set_cons_succ]
  refine held_take 16 61 (v := ?v117) rfl rfl (by kernel_rfl) (by kernel_rfl) (by kernel_rfl) (fun _ _ _ h => h) hHeld (Or.inl ⟨by rfl, ?y117⟩) ?r117
  case y117 => intro w hSw; (try dsimp only at hSw); go_simp; (try with_reducible rfl)
  simp only [List.setIfInBounds_toArray, List.set_cons_zero, List.set_cons_succ]
  refine held_take 17 62 (v := ?v118) rfl rfl (by kernel_rfl) (by kernel_rfl) (by kernel_rfl) (fun _ _ _ h => h) hHeld (Or.inl ⟨by rfl, ?y118⟩) ?r118
  case y118 => intro w hSw; (try dsimp only at hSw); go_simp; (try with_reducible rfl)
  simp only [List.setIfInBounds_toArray, List.set_cons_zero, List.set_cons_succ]
  refine held_take 18 63 (v := ?v119) rfl rfl (by kernel_rfl) (by kernel_rfl) (by kernel_rfl) (fun _ _ _ h => h) hHeld (Or.inl ⟨by rfl, ?y119⟩) ?r119
  case y119 => intro w hSw; (try dsimp only at hSw); go_simp; (try with_reducible rfl)
  simp only [List.setIfInBounds_toArray, List.set_cons_zero, List.set_cons_succ]
  refine held_take 19 64 (v := ?v120) rfl rfl (by kernel_rfl) (by kernel_rfl) (by kernel_rfl) (fun _ _ _ h => h) hHeld (Or.inl ⟨by rfl, ?y120⟩) ?r120
  case y120 => intro w hSw; (try dsimp only at hSw); go_simp; (try with_reducible rfl)
  simp only [List.setIfInBounds_toArray, List.set_cons_zero, List.set_cons_succ]
  refine held_take 20 65 (v := ?v121) rfl rfl (by kernel_rfl) (by kernel_rfl) (by kernel_rfl) (fun _ _ _ h => h) hHeld (Or.inl ⟨by rfl, ?y121⟩) ?r121
  case y121 => intro w hSw; (try dsimp only at hSw); go_simp; (try with_reducible rfl)
  simp only [List.setIfInBounds_toArray, List.set_cons_zero, List.set_cons_succ]
  refine wpAnyH_ready (rs := [15]) (by kernel_rfl) (by simp) ?_
  refine AllReadyH.cons rfl (fun K hK => ?_) AllReadyH.nil
  go_simp
  refine (HSZ.out _).mono ?_
  rintro e w7 ⟨rfl, hb7⟩
  have hbx7 := (Boxed.mk x0 x1 x2 x3 x4 x5).below hb7 x0
  have hl7 := (hl6c.below hb7).more hb7.size
  have hl7r := (hl6.below hb7).more hb7.size
  have hl7b := (hl6b.below hb7).more hb7.size
  have hbw7 : Below w.heap.size w w7 := hbw6.trans (hb7.mono hbw6.size)
  clear x1 x2 x3 x4 x5 hl6c hl6b hbw6 HSZ hHeld
  obtain ⟨y0, y1, y2, y3, y4, y5⟩ := hbx7
  have hHeld := And.intro (CV.out w7 _ A6 c6 hl7r) (And.intro (And.intro y1 (And.intro y2 (And.intro y3 (And.intro y4 y5)))) (CV.out w7 _ A3 c3 hl7))
  refine hK.out _ _ hHeld (fun _ => ?_)
  clear hK K
  refine held_take 21 66 (v := ?v122) rfl rfl (by kernel_rfl) (by kernel_rfl) (by kernel_rfl) (fun _ _ _ h => h) hHeld (Or.inl ⟨by rfl, ?y122⟩) ?r122
  case y122 => intro w hSw; (try dsimp only at hSw); go_simp; (try with_reducible rfl)
  simp only [List.setIfInBounds_toArray, List.set_cons_zero, List.set_cons_succ]
  refine held_take 22 67 (v := ?v123) rfl rfl (by kernel_rfl) (by kernel_rfl) (by kernel_rfl) (fun _ _ _ h => h) hHeld (Or.inl ⟨by rfl, ?y123⟩) ?r123
  case y123 => intro w hSw; (try dsimp only at hSw); go_simp; (try with_reducible rfl)
  simp only [List.setIfInBounds_toArray, List.set_cons_zero, List.set_cons_succ]
  refine wpAnyH_done (by kernel_rfl) ?_ _
  clear hHeld
  cases ok with
  | false =>
    have hnr : ¬ a1.right := of_decide_eq_false HOK.out
    have hzx : zs = xs := by rw [← HZ.out, putR_wrong hnr, List.append_nil]
    have cv1 := CV.out w7 _ A3 c3 hl7
    have cv2 := CV.out w7 _ a0 cap0 (by rw [hzx]; exact hl7b)
    rw [hzx] at cv2
    have hxz : zs.length = xs.length := by rw [hzx]
    rw [hxz] at cv1
    clear hnr hzx HOK HZ HZL HLE HTZ CV hls hll hoo zl1 zl2 y1 y2 y3 y4 y5 hl7 hl7r hl7b
    go_wp2
    go_ret
    exact ⟨rfl, hbw7⟩
  | true =>
    have hr : a1.right := of_decide_eq_true HOK.out
    have hrl := recL_length a1 hr
    have hrng := recL_range a1 hr
    have hgp := getRec_put a1 ms hr
    have hzr : xs ++ recL a1 = zs := by rw [← putR_right hr]; exact HZ.out
    have hLr : (recL a1).length = L := by rw [← putR_right hr]; exact HLE.out
    obtain ⟨ps, hps⟩ : ∃ ps, recL a1 = ps := ⟨_, rfl⟩
    rw [hps] at hrl hrng hgp hzr hLr
    have hzd : zs.drop xs.length = ps := by rw [← hzr, List.drop_left]
    have hzl2 : zs.length = xs.length + ps.length := by rw [← hzr, List.length_append]
    have hcx : ¬ c3 = xs.length := by omega
    have hl8 := hl7.cut (n := xs.length) hc3
    obtain ⟨b3, off3, hA3, -, -⟩ := hl7.at_ (j := 0) (by omega)
    subst hA3
    rw [hzd, if_neg hcx, Option.map_some, add_lit] at hl8
    have hms := (HL'.out.below hbw7).more hbw7.size
    have z1 := Lib.hid (show ps.length = zs.length - xs.length by omega)
    have hLp : (ps.length : Int) = (L : Int) := by omega
    have heqL : ((L : Int) == (L : Int)) = true := by simp
    have HGP := Lib.hid hgp
    have HLP := Lib.hid hLp
    have HRNG := Lib.hid hrng
    have hpl2 : ps.length ≤ 2300 := hrl.2
    have hxz : (xs.length : Int) ≤ (zs.length : Int) := by omega
    clear hgp hps hzr hLr hzd hzl2 hr hrng hLp HOK HZ HZL HLE HTZ CV hll hoo hl7 hl7r hl7b hrl
    go_wp2_with (first
      | (at_builtin; refine wpList_append_ints rfl (.const (.slice none 0 0)) (.tmp 79) 22 rfl w7.heap.size 5 .u8 i0 1 Try.underlying22 hi0 hz0 hz1 hz2 (by decide) (.slice none 0 0) [] rfl Own.nil w7.heap.size (some ⟨b3, off3 + xs.length, none⟩) (zs.length - xs.length) (c3 - xs.length) ps rfl z1.out (by omega) hl8 (by simp; omega) (Nat.le_refl _) (by simp) ?_; intro v8 w8 hown8 hgr8 hob8; rw [List.nil_append] at hown8; have b78 : Below w7.heap.size w7 w8 := (Own.nil (k := .u8) (e := 5) (w := w7) (base := w7.heap.size)).grown_below hgr8 (Nat.le_refl _); have hms8 := hms.below b78; clear hgr8 hob8)
      | (at_builtin; refine wpList_append_ints rfl (.tmp 80) (.tmp 81) 22 rfl w7.heap.size 5 .u8 i0 1 Try.underlying22 hi0 hz0 hz1 hz2 (by decide) v8 ps rfl hown8 w7.heap.size a2 ms.length cap2 ms rfl rfl hc' hms8 (by omega) b78.size HN'.out ?_; intro v9 w9 hown9 hgr9 hob9; have b89 := hown8.grown_below hgr9 b78.size; clear hgr9 hob9; obtain ⟨A9, c9, rfl, hc9, hm9, hl9⟩ := hown9.parts))
    have b79 : Below w7.heap.size w7 w9 := b78.trans b89
    have hby9 : IsBytes (ps ++ ms) := fun q hq => by
      rcases List.mem_append.1 hq with h | h
      · exact HRNG.out q h
      · exact hby' q h
    have hget := rget_any A9 (ps ++ ms) c9 w9 hl9 hby9 hc9 hm9
    rw [HGP.out, HLP.out, List.length_append] at hget
    have hbx9 := (Boxed.mk y0 y1 y2 y3 y4 y5).below b79 y0
    clear y1 y2 y3 y4 y5 hl9 hown9 hown8 hms8 hms hl8
    refine hget.mono ?_
    rintro e w10 ⟨rfl, hb10⟩
    clear hget
    have hbx10 := hbx9.below hb10 hbx9.lt
    obtain ⟨g0, g1, g2, g3, g4, g5⟩ := hbx10
    have hbw10 : Below w.heap.size w w10 := hbw7.trans ((b79.mono hbw7.size).trans (hb10.mono (by have := hbw7.size; have := b79.size; omega)))
    have HBW := Lib.hid hbw10
    clear hbx9 hbw10 hb10 b78 b89 b79 hbw7
    unfold recV
    go_wp2_with fail
    refine (num_any _ _).mono ?_
    rintro e w11 ⟨rfl, rfl⟩
    go_wp2
    go_ret
    exact ⟨rfl, HBW.out.alloc HBW.out.size _⟩

set_option maxRecDepth 100000 in
theorem lifted (os : Os) (started : os.Started) (H : Type) (enc : TypeId × Value → H) :
    ReturnsInHanded {} Try.checked os 3 .any (Rows.recordPutsSpec.pre6 enc Try.prog Try.f3 Rows.recordPutsRow.domain false) (Rows.recordPutsSpec.post enc Try.prog Try.f3 false true false false) := by
  refine returnsInHanded_of_change (C := Try.checked) own started (by kernel_rfl) Try.func3
    (ChangeSpec.witness6 (enc := enc) (C := Try.checked) false ⟨#[], #[.slice none 0 0, .agg #[.int .i64 0, .int .i64 0, .string ⟨#[]⟩, .string ⟨#[]⟩, .bool false], .slice none 0 0], []⟩ 8 (by kernel_rfl) (by kernel_rfl) (by kernel_rfl) (by kernel_rfl)) ?_
  intro W base args ds gs before hval0 hW hcnd _
  have hval : ∀ (j : Nat) t v, Try.f3.params[j]? = some t → args[j]? = some v → Value.okWide Try.prog W .any base t v := hval0
  have hW' := hW
  obtain ⟨p, q, hA0, hV, rfl, hfz, hnd⟩ := hW
  have hA : DataW.TrodAll enc Try.prog W 0 (fun _ => true) true Try.f3.params.toList args.toList ds p := hA0
  rw [Try.params3] at hA hval
  obtain ⟨v0, vs0, d0, ds0, p0, q0, hargs, rfl, rfl, h0, r0⟩ := trodAll_cons hA
  obtain ⟨v1, vs1, d1, ds1, p1, q1, rfl, rfl, rfl, h1, r1⟩ := trodAll_cons r0
  obtain ⟨v2, vs2, d2, ds2, p2, q2, rfl, rfl, rfl, h2, r2⟩ := trodAll_cons r1
  obtain ⟨rfl, rfl, rfl⟩ := trodAll_nil r2
  obtain rfl : args = #[v0, v1, v2] := by cases args; simp_all
  obtain ⟨rfl, rfl⟩ := trodVars_none hV
  obtain ⟨a0, len0, cap0, rfl⟩ := okWide_slice Try.underlying22 (hval 0 22 v0 rfl rfl)
  have k0 := h0
  have lt0 : ∀ x ∈ p0, x.block < W.heap.size := by obtain ⟨m, hm⟩ := k0; exact DataW.trod_lt m _ _ _ hm
  obtain ⟨z0, w0⟩ : ∃ zs, IsRow .u8 W a0 len0 cap0 zs := by
    obtain ⟨fuel, hf⟩ := h0
    rcases open_ints Try.underlying22 Try.underlying5 (by kernel_rfl) hf with ⟨hcs, _⟩ | ⟨x, l, c, zs, hcs, _, hl, hm, hz, _, hcell, hwz⟩
    · simp [Value.cells] at hcs
      obtain ⟨rfl, rfl, rfl⟩ := hcs
      exact ⟨[], .inl ⟨rfl, rfl, rfl, rfl⟩⟩
    · simp [Value.cells] at hcs
      obtain ⟨rfl, rfl, rfl⟩ := hcs
      exact ⟨zs, .inr ⟨_, rfl, hl, hm, by simpa using hz, hcell, hwz⟩⟩
  have k1 := h1
  have lt1 : ∀ x ∈ p1, x.block < W.heap.size := by obtain ⟨m, hm⟩ := k1; exact DataW.trod_lt m _ _ _ hm
  obtain ⟨a1, rfl, w1⟩ := rec_came (hval 1 24 v1 rfl rfl) h1
  obtain ⟨a2, len2, cap2, rfl⟩ := okWide_slice Try.underlying22 (hval 2 22 v2 rfl rfl)
  have k2 := h2
  have lt2 : ∀ x ∈ p2, x.block < W.heap.size := by obtain ⟨m, hm⟩ := k2; exact DataW.trod_lt m _ _ _ hm
  obtain ⟨z2, w2⟩ : ∃ zs, IsRow .u8 W a2 len2 cap2 zs := by
    obtain ⟨fuel, hf⟩ := h2
    rcases open_ints Try.underlying22 Try.underlying5 (by kernel_rfl) hf with ⟨hcs, _⟩ | ⟨x, l, c, zs, hcs, _, hl, hm, hz, _, hcell, hwz⟩
    · simp [Value.cells] at hcs
      obtain ⟨rfl, rfl, rfl⟩ := hcs
      exact ⟨[], .inl ⟨rfl, rfl, rfl, rfl⟩⟩
    · simp [Value.cells] at hcs
      obtain ⟨rfl, rfl, rfl⟩ := hcs
      exact ⟨zs, .inr ⟨_, rfl, hl, hm, by simpa using hz, hcell, hwz⟩⟩
  clear hA0 hval0
  refine (walk a0 len0 cap0 z0 a1 a2 len2 cap2 z2 W w0 w1 w2).mono fun e W' ⟨he, bel⟩ => ?_
  subst he
  exact ⟨_, rfl, _, _, _, [], _, [], hW', trodAll_mk1 (shut_bool Try.underlying4 _), (trodAll_cons_mk (Below.trod laidOut (by kernel_rfl) (of_decide_eq_true (by kernel_rfl)) k0 bel lt0) (trodAll_cons_mk (Below.trod laidOut (by kernel_rfl) (of_decide_eq_true (by kernel_rfl)) k1 bel lt1) (trodAll_cons_mk (Below.trod laidOut (by kernel_rfl) (of_decide_eq_true (by kernel_rfl)) k2 bel lt2) trodAll_mk0))), rfl, bel.frame _, fun h => by cases h⟩

theorem over : Rows.recordPutsRow.holds Try.pinned (OpenSpec.ofChange Rows.recordPutsSpec) :=
  OpenClaim.holds_of_wide 3 Try.f3 rfl rfl rfl rfl rfl rfl rfl ⟨rfl, rfl, rfl, rfl, rfl⟩ rfl rfl rfl rfl rfl (by kernel_rfl) Try.func3 (by kernel_rfl)
    (of_decide_eq_true (by kernel_rfl)) (by unfold Func.isWrapper; first | (rw [if_pos (by decide +kernel)]; kernel_rfl) | (rw [if_neg (by decide +kernel)]; exact ⟨rfl, rfl⟩))
    (fun os started H enc _ => lifted os started H enc)

theorem proved : Rows.RecordPutsSaid := over
#print axioms proved
end Go.Proofs.Ytdhahjkldmbneaa.recordPuts
