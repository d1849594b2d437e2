/- Contracts of the program's own get and of put where it puts nothing. -/
import Derived.Test.YtfbdmagonjjjoaaDoorVSSet
import Derived.Deep.QuietTactic
import Derived.BigQuiet
namespace Go.Proofs.YtfbdmagonjjjoaaDoor
open Go.RowKit Go.Maps

/-- The library's tables stay while blocks behind them are written. -/
theorem Tabs.past {B : Nat} {w w' : World} (h : Tabs w) (hb : Below B w w') (hB : 2 ≤ B) : Tabs w' := by
  obtain ⟨h1, h2⟩ := h
  exact ⟨fun c hc => by rw [hb.cell (by show (0 : Nat) < B; omega)]; exact h1 c hc, fun i hi => by
    rw [hb.cell (by show (1 : Nat) < B; omega), hb.cell (by show (1 : Nat) < B; omega)]
    exact h2 i hi⟩
theorem Tabs.two {w : World} (h : Tabs w) : 2 ≤ w.heap.size := by
  have := (h.2 0 (by omega)).1
  unfold World.cell? at this
  rcases Nat.lt_or_ge 1 w.heap.size with h1 | h1
  · omega
  · rw [Array.getElem?_eq_none (by exact h1)] at this
    cases this

theorem one_file {fs : List FileP} (hr : Rising (filesP fs)) {x y : FileP} (hx : x ∈ fs) (hy : y ∈ fs) (hn : x.f.name = y.f.name) : x = y := by
  induction fs with
  | nil => cases hx
  | cons a t ih =>
    rw [filesP_cons] at hr
    obtain ⟨r1, r2⟩ := List.pairwise_cons.1 hr
    rcases List.mem_cons.1 hx with ex | hx2
    · rcases List.mem_cons.1 hy with ey | hy2
      · rw [ex, ey]
      · exact absurd (by rw [ex] at hn; exact hn) (ltS_ne (r1 y.f (List.mem_map.2 ⟨y, hy2, rfl⟩)))
    · rcases List.mem_cons.1 hy with ey | hy2
      · exact absurd (by rw [ey] at hn; exact hn.symm) (ltS_ne (r1 x.f (List.mem_map.2 ⟨x, hx2, rfl⟩)))
      · exact ih r2 hx2 hy2
/-- The file of a name. -/
theorem has_file {fs : List FileP} {n : ByteArray} (h : hasF (filesP fs) n = true) : ∃ x ∈ fs, x.f.name = n ∧ (filesP fs)[findK (filesP fs) n]? = some x.f := by
  have h1 := hasF_lt h
  have h2 := hasF_name h
  rw [filesP_length] at h1
  refine ⟨fs[findK (filesP fs) n], List.getElem_mem h1, ?_, ?_⟩
  · rw [← filesP_at fs _ h1]; exact h2
  · rw [List.getElem?_eq_getElem (by rw [filesP_length]; exact h1), filesP_at fs _ h1]
theorem file_has {fs : List FileP} (hr : Rising (filesP fs)) {x : FileP} (hx : x ∈ fs) : hasF (filesP fs) x.f.name = true := hasF_mem hr (List.mem_map.2 ⟨x, hx, rfl⟩)
theorem file_at {fs : List FileP} (hr : Rising (filesP fs)) {x : FileP} (hx : x ∈ fs) : (filesP fs)[findK (filesP fs) x.f.name]? = some x.f := by
  obtain ⟨y, hy, e, h⟩ := has_file (file_has hr hx)
  rw [h, one_file hr hy hx e]
theorem not_file {fs : List FileP} {n : ByteArray} (hr : Rising (filesP fs)) (h : hasF (filesP fs) n = false) : ∀ x ∈ fs, x.f.name ≠ n := fun x hx => hasF_not hr h x.f (List.mem_map.2 ⟨x, hx, rfl⟩)

section
variable {base : Nat} {S : Nat → Prop} {w : World} {p : Nat} {room u : Int} {fs : List FileP} {bad : List Int}
theorem getP_some {x : FileP} (hr : Rising (filesP fs)) (hx : x ∈ fs) (h : validS x.f.name = true) : getM (filesP fs) x.f.name = (x.f, 0) := by
  unfold getM
  rw [if_neg (by rw [h]; simp), if_pos (file_has hr hx), file_at hr hx]
  rfl
set_option maxHeartbeats 800000 in
theorem vget_bad (n : ByteArray) (hn : n.size ≤ maxLen) (hT : Tabs w) (hv : validS n = false) :
    Calls Tryd.prog 27 #[.pointer (some ⟨p, 0, none⟩), .string n] w fun e w' => e = .returned (.iface 29 (.int .i64 6)) ∧ Below w.heap.size w w' := by
  have hc := valid_any n w hn hT
  rw [hv] at hc
  have HC := Lib.hid hc
  clear hc hv hT hn
  go_enter Tryd.func27, Tryd.ntmps27
  go_wp2_with fail
  refine HC.out.mono ?_
  rintro e w1 ⟨rfl, hb⟩
  go_wp2
  go_ret
  exact ⟨rfl, hb⟩
set_option maxHeartbeats 800000 in
theorem vget_none (hV : VStoreU base S w p room u fs bad) (n : ByteArray) (hn : n.size ≤ maxLen) (hT : Tabs w) (hv : validS n = true) (hh : hasF (filesP fs) n = false) :
    Calls Tryd.prog 27 #[.pointer (some ⟨p, 0, none⟩), .string n] w fun e w' => e = .returned (.iface 29 (.int .i64 8)) ∧ Below w.heap.size w w' := by
  have hc := valid_any n w hn hT
  rw [hv] at hc
  have HC := Lib.hid hc
  have hno := not_file hV.row.rising hh
  have look : ∀ w1, Below w.heap.size w w1 → ∃ mo, w1.cell? ⟨p, 2, none⟩ = some (.map mo) ∧ (Instr.lookup 46 (.map mo) (.string n) true).run Tryd.prog w1 = .ok (.tuple #[.slice none 0 0, .bool false]) w1 := fun w1 hb => by
    obtain ⟨mo, fv, _, _, c2, _, hm, _⟩ := (hV.below hb).cells
    exact ⟨mo, c2, ((hm.look hV.row.rising hn).2 hno).2⟩
  have LK := Lib.hid look
  clear hc hv hT hn hV look hno hh
  go_enter Tryd.func27, Tryd.ntmps27
  go_wp2_with fail
  refine HC.out.mono ?_
  rintro e w1 ⟨rfl, hb⟩
  obtain ⟨mo, c2, hl⟩ := LK.out w1 hb
  go_wp2
  go_ret
  exact ⟨rfl, hb⟩
set_option maxHeartbeats 800000 in
theorem vget_some (hV : VStoreU base S w p room u fs bad) (x : FileP) (hx : x ∈ fs) (n : ByteArray) (hxn : x.f.name = n) (hn : n.size ≤ maxLen) (hT : Tabs w) (hv : validS n = true) :
    Calls Tryd.prog 27 #[.pointer (some ⟨p, 0, none⟩), .string n] w fun e w' => e = .returned (.iface 32 x.v) ∧ Below w.heap.size w w' := by
  have hc := valid_any n w hn hT
  rw [hv] at hc
  have HC := Lib.hid hc
  have look : ∀ w1, Below w.heap.size w w1 → ∃ mo, w1.cell? ⟨p, 2, none⟩ = some (.map mo) ∧ (Instr.lookup 46 (.map mo) (.string n) true).run Tryd.prog w1 = .ok (.tuple #[x.v, .bool true]) w1 := fun w1 hb => by
    obtain ⟨mo, fv, _, _, c2, _, hm, _⟩ := (hV.below hb).cells
    exact ⟨mo, c2, ((hm.look hV.row.rising hn).1 x hx hxn).2⟩
  have LK := Lib.hid look
  generalize x.v = g at *
  clear hc hv hT hn hV look hxn hx
  go_enter Tryd.func27, Tryd.ntmps27
  go_wp2_with fail
  refine HC.out.mono ?_
  rintro e w1 ⟨rfl, hb⟩
  obtain ⟨mo, c2, hl⟩ := LK.out w1 hb
  go_wp2
  go_ret
  exact ⟨rfl, hb⟩

/-- What put and remove answer. -/
def DoesI (base : Nat) (S : Nat → Prop) (p : Nat) (room : Int) (bad : List Int) (r : List FileM × Int) (w : World) (e : Ending) (w' : World) : Prop :=
  e = .returned (.iface 29 (.int .i64 r.2)) ∧ ∃ fs', filesP fs' = r.1 ∧ Left base S w w' p room ((usedM (filesP fs') : Nat) : Int) fs' bad
/-- What Put and Delete answer. -/
def Does (base : Nat) (S : Nat → Prop) (p : Nat) (room : Int) (bad : List Int) (r : List FileM × Int) (w : World) (e : Ending) (w' : World) : Prop :=
  e = .returned (.int .i64 r.2) ∧ ∃ fs', filesP fs' = r.1 ∧ Left base S w w' p room ((usedM (filesP fs') : Nat) : Int) fs' bad
set_option maxHeartbeats 800000 in
theorem vput_bad (hV : VStore base S w p room fs bad) (n : ByteArray) (A : Option Addr) (ys : List Int) (c : Nat) (hn : n.size ≤ maxLen) (hT : Tabs w) (hv : validS n = false) :
    Calls Tryd.prog 18 #[.pointer (some ⟨p, 0, none⟩), .string n, .slice A ys.length c] w (DoesI base S p room bad (putM room (filesP fs) n ys) w) := by
  have e1 : putM room (filesP fs) n ys = (filesP fs, 6) := by unfold putM; rw [if_pos hv]
  rw [e1]
  have hc := valid_any n w hn hT
  rw [hv] at hc
  have HC := Lib.hid hc
  have HV := Lib.hid hV
  clear hV hn hT hv e1 hc
  go_enter Tryd.func18, Tryd.ntmps18
  go_wp2_with fail
  refine HC.out.mono ?_
  rintro e w1 ⟨rfl, hb⟩
  go_wp2
  go_ret
  exact ⟨rfl, fs, rfl, Left.of_below HV.out hb⟩
/-- How many bytes the object of a name has, by the map. -/
theorem look_len (hV : VStore base S w p room fs bad) (n : ByteArray) (hn : n.size ≤ maxLen) : ∃ A c, (ofName (filesP fs) n).b.length ≤ usedM (filesP fs) ∧ ∀ w1, Below w.heap.size w w1 → ∃ mo, w1.cell? ⟨p, 0, none⟩ = some (.int .i64 room) ∧ w1.cell? ⟨p, 1, none⟩ = some (.int .i64 ((usedM (filesP fs) : Nat) : Int)) ∧ w1.cell? ⟨p, 2, none⟩ = some (.map mo) ∧ MapF S w1 mo fs ∧
    ∀ k, (Instr.lookup 46 (.map mo) (.string n) false).run Tryd.prog (w1.drewN k) = .ok (.slice A (ofName (filesP fs) n).b.length c) (w1.drewN k) := by
  cases hh : hasF (filesP fs) n with
  | false =>
    rw [ofName_none hh]
    refine ⟨none, 0, Nat.zero_le _, fun w1 hb => ?_⟩
    obtain ⟨mo, fv, c0, c1, c2, _, hm, _⟩ := (hV.below hb).cells
    refine ⟨mo, c0, c1, c2, hm, fun k => ?_⟩
    have hm' : MapF S (w1.drewN k) mo fs := hm.keep (fun _ h => h) (fun _ _ _ => rfl)
    exact ((hm'.look hV.row.rising hn).2 (not_file hV.row.rising hh)).1
  | true =>
    obtain ⟨x, hx, rfl, _⟩ := has_file hh
    rw [ofName_has hV.row.rising hx]
    obtain ⟨A, c, hv, _⟩ := (hV.row.file x hx).own.form
    refine ⟨A, c, used_ge hx, fun w1 hb => ?_⟩
    obtain ⟨mo, fv, c0, c1, c2, _, hm, _⟩ := (hV.below hb).cells
    refine ⟨mo, c0, c1, c2, hm, fun k => ?_⟩
    have hm' : MapF S (w1.drewN k) mo fs := hm.keep (fun _ h => h) (fun _ _ _ => rfl)
    rw [((hm'.look hV.row.rising hn).1 x hx rfl).1, hv]
set_option maxHeartbeats 1600000 in
set_option maxRecDepth 4000 in
theorem vput_full (hV : VStore base S w p room fs bad) (n : ByteArray) (A : Option Addr) (ys : List Int) (c : Nat) (hn : n.size ≤ maxLen) (hT : Tabs w) (hv : validS n = true) (hr0 : 0 ≤ room) (hr1 : room ≤ 9223372036854775807) (hu : usedM (filesP fs) ≤ 1099511627776)
    (hfull : room - ((usedM (filesP fs) : Int) - ((ofName (filesP fs) n).b.length : Int)) < (ys.length : Int)) :
    Calls Tryd.prog 18 #[.pointer (some ⟨p, 0, none⟩), .string n, .slice A ys.length c] w (DoesI base S p room bad (putM room (filesP fs) n ys) w) := by
  have e1 : putM room (filesP fs) n ys = (filesP fs, 7) := by unfold putM; rw [if_neg (by rw [hv]; simp), if_pos hfull]
  rw [e1]
  have hc := valid_any n w hn hT
  rw [hv] at hc
  have HC := Lib.hid hc
  have HV := Lib.hid hV
  obtain ⟨Ao, co, hle, hlk⟩ := look_len hV n hn
  have LK := Lib.hid hlk
  obtain ⟨U, hU⟩ : ∃ U, usedM (filesP fs) = U := ⟨_, rfl⟩
  obtain ⟨Lo, hLo⟩ : ∃ Lo, (ofName (filesP fs) n).b.length = Lo := ⟨_, rfl⟩
  obtain ⟨L, hL⟩ : ∃ L, ys.length = L := ⟨_, rfl⟩
  rw [hU] at hu hfull LK hle
  rw [hLo] at hfull LK hle
  rw [hL] at hfull ⊢
  have hw1 : wrap64 ((U : Int) - (Lo : Int)) = (U : Int) - (Lo : Int) := by unfold wrap64; omega
  have hw2 : wrap64 (room - ((U : Int) - (Lo : Int))) = room - ((U : Int) - (Lo : Int)) := by unfold wrap64; omega
  have hd : decide ((L : Int) > room - ((U : Int) - (Lo : Int))) = true := decide_eq_true hfull
  clear hV hn hT hv e1 hc hlk hU hLo hL
  go_enter Tryd.func18, Tryd.ntmps18
  go_wp2_with fail
  refine HC.out.mono ?_
  rintro e w1 ⟨rfl, hb⟩
  obtain ⟨mo, c0, c1, c2, _, hl⟩ := LK.out w1 hb
  go_wp2_with fail
  go_quiet (fail)
  go_wp2
  go_ret
  exact ⟨rfl, fs, rfl, Left.of_below HV.out (below_drewN hb _)⟩
end
end Go.Proofs.YtfbdmagonjjjoaaDoor
