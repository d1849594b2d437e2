/- For every slice of numbers of 64 bits, nil too, the law VarintRow answers true, and its argument reads as before. No condition. -/
import Derived.Test.YtcdhbmjobahoiaaRows
import Derived.WalkKit
import Derived.ProofKit
import Derived.OpenShut
import Derived.ShutString
import Derived.ChangeOld
import Derived.Below
import Derived.Test.YtcdhbmjobahoiaaPut
import Derived.Test.YtcdhbmjobahoiaaGet
import Derived.Test.YtcdhbmjobahoiaaCame
namespace Go.Proofs.Ytcdhbmjobahoiaa.varintRow
open Go.ChangeShapes Go.WideShapes Go.ChangeAt Go.RowKit
open Go.ChangeMaps (open_string shut_string)
set_option linter.unusedVariables false

theorem own : ownKnob Try.prog.godebug = none := by kernel_rfl
theorem laidOut : laidOutB Try.prog = true := by kernel_rfl

/-- WHAT THE WALK IS TOLD OF A SLICE OF INTEGERS THAT CAME IN: it is nil; or it leads to a row of 'cap' cells, the numbers 'zs' (the first 'len' are its elements, the rest its spare room), each fitting its kind. -/
def IsRow (k : IntKind) (w : World) (a : Option Addr) (len cap : Nat) (zs : List Int) : Prop :=
  (a = none ∧ len = 0 ∧ cap = 0 ∧ zs = []) ∨
  ∃ x, a = some x ∧ len ≤ cap ∧ cap ≤ maxLen ∧ zs.length = cap ∧ (∀ i, i < zs.length → w.cell? (x.add i) = some (.int k (zs.getD i 0))) ∧ ∀ n ∈ zs, (Lit.int k n).wf = true

set_option maxHeartbeats 1600000 in
theorem walk (a0 : Option Addr) (len0 cap0 : Nat) (z0 : List Int) (w : World) (w0 : IsRow .u64 w a0 len0 cap0 z0) :
    Calls Try.prog 7 #[.slice a0 len0 cap0] w fun e w' => e = .returned (.bool true) ∧ Below w.heap.size w w' := by
  obtain ⟨l, rfl, hc, hm, hl, hwf, hn⟩ := row_came w0
  have hby : ∀ x ∈ l, 0 ≤ x ∧ x ≤ 18446744073709551615 := fun n hn => bounds_u64 (hwf n hn)
  clear w0 hn hwf
  by_cases h100 : 100 < l.length
  · have h1 : (100 : Int) < (l.length : Int) := by omega
    go_enter Try.func7, Try.ntmps7
    go_wp2_with fail
    refine (alive_any w).mono ?_
    rintro e w1 ⟨rfl, hbel⟩
    go_wp2
    go_ret
    exact ⟨rfl, hbel⟩
  · have h1 : decide ((100 : Int) < (l.length : Int)) = false := by simp; omega
    have h1n : l.length ≤ 100 := by omega
    clear h100
    have hBY := Lib.hid hby
    clear hby
    go_enter Try.func7, Try.ntmps7
    go_wp2_with fail
    refine (alive_any w).mono ?_
    rintro e w1 ⟨rfl, hbel⟩
    go_wp2_with fail
    go_loopw [4, 5] (fun v iv wr => ∃ k : Nat, iv = .int .i64 k ∧ k ≤ l.length ∧ Own .u8 5 wr w.heap.size v (rowL (l.take k)) ∧ Below w.heap.size w wr)
      (fun _ iv _ => l.length - (intOf iv).toNat)
    case atStart => exact ⟨0, rfl, Nat.zero_le _, Own.nil, hbel⟩
    case round =>
      obtain ⟨k, rfl, hk, hown, hbr⟩ := hrel
      have hrl := rowL_length (l.take k)
      have htk : (l.take k).length ≤ k := List.length_take_le _ _
      by_cases hlt : k < l.length
      · obtain ⟨q0, q1⟩ := hBY.out l[k] (List.getElem_mem hlt)
        obtain ⟨b, off, rfl, hbl, hcell⟩ := (hl.below hbr).at_ hlt
        have hsn := Lib.hid (rowL_snoc l k hlt)
        obtain ⟨q, hq⟩ : ∃ q, l[k] = q := ⟨_, rfl⟩
        rw [hq] at hcell q0 q1 hsn
        clear hq
        obtain ⟨A, c, rfl, hc2, hm2, hl2⟩ := hown.parts
        have hz := hbr.size
        go_wp2_with fail
        refine (put_any A _ c q wr hl2 hc2 (by omega) q0 q1).mono ?_
        rintro e w2 ⟨v, rfl, hown2, hbel2⟩
        rw [← hsn.out] at hown2
        have hown3 := hown2.lower hz
        have hb3 := hbr.trans (hbel2.mono hz)
        clear hown2 hbel2 hown hl2
        go_wp2
        go_roundw
        case rel => exact ⟨k + 1, by go_num, by omega, hown3, hb3⟩
        case measure => simp [intOf]; omega
      · have hke : k = l.length := by omega
        have htake : l.take k = l := by rw [hke, List.take_length]
        rw [htake] at hown hrl
        clear htake hke htk
        obtain ⟨A, c, rfl, hc2, hm2, hl2⟩ := hown.parts
        clear hown
        obtain ⟨zs, hzs⟩ : ∃ zs, rowL l = zs := ⟨_, rfl⟩
        rw [hzs] at hc2 hl2 hrl ⊢
        have HZ := Lib.hid hzs
        clear hzs
        unfold maxLen at hm2
        have HZB : IsBytes zs := by rw [← HZ.out]; exact rowL_range l hBY.out
        have hlr := (hl.below hbr).more hbr.size
        clear hl
        go_wp2_with fail
        go_loop [6, 7] (fun av iv => ∃ j : Nat, iv = .int .i64 j ∧ j ≤ l.length ∧ av = .int .i64 ((rowL (l.take j)).length : Int))
          (fun _ iv => l.length - (intOf iv).toNat)
        case atStart => exact ⟨0, rfl, Nat.zero_le _, rfl⟩
        case round =>
          obtain ⟨j, rfl, hj, rfl⟩ := hrel
          by_cases hjl : j < l.length
          · obtain ⟨q0, q1⟩ := hBY.out l[j] (List.getElem_mem hjl)
            obtain ⟨b0, off0, rfl, hbl0, hcell0⟩ := hlr.at_ hjl
            have hsn := rowL_snoc l j hjl
            have hdr := rowL_drop l j hjl
            have hpl := putL_length l[j]
            obtain ⟨q, hq⟩ : ∃ q, l[j] = q := ⟨_, rfl⟩
            rw [hq] at hcell0 q0 q1 hsn hdr hpl
            clear hq
            rw [HZ.out] at hdr
            have hsl := congrArg List.length hsn
            rw [List.length_append] at hsl
            have hlt0 : (rowL (l.take j)).length < zs.length := by
              rcases Nat.lt_or_ge (rowL (l.take j)).length zs.length with h | h
              · exact h
              · have := congrArg List.length hdr
                rw [List.drop_eq_nil_of_le h, List.length_append, List.length_nil] at this
                omega
            obtain ⟨p, hp⟩ : ∃ p, (rowL (l.take j)).length = p := ⟨_, rfl⟩
            have hget := get_any _ (zs.drop p) (c - p) wr (hl2.cut hc2) (fun x hx => HZB x (List.mem_of_mem_drop hx))
            rw [hp] at hdr hsl hlt0 ⊢
            rw [List.length_drop, hdr, getR_putL q _ q0 q1] at hget
            obtain ⟨m, hm⟩ : ∃ m, (putL q).length = m := ⟨_, rfl⟩
            obtain ⟨b1, off1, rfl, _, _⟩ := hl2.at_ hlt0
            rw [if_neg (by omega), Option.map_some, add_lit, hm] at hget
            rw [hm] at hsl hpl
            have HG := Lib.hid hget
            have HS := Lib.hid hsl
            have hle : ¬ ((zs.length : Int) < (p : Int)) := by omega
            have hcp : ¬ c = p := by omega
            have hm1 : ¬ ((m : Int) < 1) := by omega
            have hqq : (q != q) = false := by simp
            have hsum : p + m ≤ 1000 := by
              have := rowL_length (l.take (j + 1))
              have h2 : (l.take (j + 1)).length ≤ j + 1 := List.length_take_le _ _
              omega
            clear hget hsl hdr hsn hp hm
            go_wp2_with fail
            refine HG.out.mono ?_
            rintro e w3 ⟨rfl, rfl⟩
            go_wp2_with fail
            refine (num_any _ _).mono ?_
            rintro e w3 ⟨rfl, rfl⟩
            go_wp2
            go_round
            case rel => exact ⟨j + 1, by go_num, by omega, by rw [HS.out]; go_num⟩
            case measure => simp [intOf]; omega
          · have hje : j = l.length := by omega
            have hlen : (rowL (l.take j)).length = zs.length := by rw [hje, List.take_length, HZ.out]
            rw [hlen]
            have heq : ((zs.length : Int) == (zs.length : Int)) = true := by simp
            clear hje hlen
            go_wp2
            go_ret
            exact ⟨rfl, hbr⟩

set_option maxRecDepth 100000 in
theorem lifted (os : Os) (started : os.Started) (H : Type) (enc : TypeId × Value → H) :
    ReturnsInHanded {} Try.checked os 7 .any (Rows.varintRowSpec.pre6 enc Try.prog Try.f7 Rows.varintRowRow.domain false) (Rows.varintRowSpec.post enc Try.prog Try.f7 false true false false) := by
  refine returnsInHanded_of_change (C := Try.checked) own started (by kernel_rfl) Try.func7
    (ChangeSpec.witness6 (enc := enc) (C := Try.checked) false ⟨#[], #[.slice none 0 0], []⟩ 8 (by kernel_rfl) (by kernel_rfl) (by kernel_rfl) (by kernel_rfl)) ?_
  intro W base args ds gs before hval0 hW hcnd _
  have hval : ∀ (j : Nat) t v, Try.f7.params[j]? = some t → args[j]? = some v → Value.okWide Try.prog W .any base t v := hval0
  have hW' := hW
  obtain ⟨p, q, hA0, hV, rfl, hfz, hnd⟩ := hW
  have hA : DataW.TrodAll enc Try.prog W 0 (fun _ => true) true Try.f7.params.toList args.toList ds p := hA0
  rw [Try.params7] at hA hval
  obtain ⟨v0, vs0, d0, ds0, p0, q0, hargs, rfl, rfl, h0, r0⟩ := trodAll_cons hA
  obtain ⟨rfl, rfl, rfl⟩ := trodAll_nil r0
  obtain rfl : args = #[v0] := by cases args; simp_all
  obtain ⟨rfl, rfl⟩ := trodVars_none hV
  obtain ⟨a0, len0, cap0, rfl⟩ := okWide_slice Try.underlying39 (hval 0 39 v0 rfl rfl)
  have k0 := h0
  have lt0 : ∀ x ∈ p0, x.block < W.heap.size := by obtain ⟨m, hm⟩ := k0; exact DataW.trod_lt m _ _ _ hm
  obtain ⟨z0, w0⟩ : ∃ zs, IsRow .u64 W a0 len0 cap0 zs := by
    obtain ⟨fuel, hf⟩ := h0
    rcases open_ints Try.underlying39 Try.underlying23 (by kernel_rfl) hf with ⟨hcs, _⟩ | ⟨x, l, c, zs, hcs, _, hl, hm, hz, _, hcell, hwz⟩
    · simp [Value.cells] at hcs
      obtain ⟨rfl, rfl, rfl⟩ := hcs
      exact ⟨[], .inl ⟨rfl, rfl, rfl, rfl⟩⟩
    · simp [Value.cells] at hcs
      obtain ⟨rfl, rfl, rfl⟩ := hcs
      exact ⟨zs, .inr ⟨_, rfl, hl, hm, by simpa using hz, hcell, hwz⟩⟩
  clear hA0 hval0
  refine (walk a0 len0 cap0 z0 W w0).mono fun e W' ⟨he, bel⟩ => ?_
  subst he
  exact ⟨_, rfl, _, _, _, [], _, [], hW', trodAll_mk1 (shut_bool Try.underlying4 _), (trodAll_cons_mk (Below.trod laidOut (by kernel_rfl) (of_decide_eq_true (by kernel_rfl)) k0 bel lt0) trodAll_mk0), rfl, bel.frame _, fun h => by cases h⟩

theorem over : Rows.varintRowRow.holds Try.pinned (OpenSpec.ofChange Rows.varintRowSpec) :=
  OpenClaim.holds_of_wide 7 Try.f7 rfl rfl rfl rfl rfl rfl rfl ⟨rfl, rfl, rfl, rfl, rfl⟩ rfl rfl rfl rfl rfl (by kernel_rfl) Try.func7 (by kernel_rfl)
    (of_decide_eq_true (by kernel_rfl)) (by unfold Func.isWrapper; first | (rw [if_pos (by decide +kernel)]; kernel_rfl) | (rw [if_neg (by decide +kernel)]; exact ⟨rfl, rfl⟩))
    (fun os started H enc _ => lifted os started H enc)

theorem proved : Rows.VarintRowSaid := over
#print axioms proved
end Go.Proofs.Ytcdhbmjobahoiaa.varintRow
