/- From an argument as a row reads it to the words of my own: a list of calls that came in; a contract of the statement's own Big. -/
import Derived.Test.YtefjbefmmmllbaaDoorCame
import Derived.Test.YtefjbefmmmllbaaDoorBytes
import Derived.ChangeArms
import Derived.Deep.Slices
import Derived.ChangeSame
namespace Go.Proofs.YtefjbefmmmllbaaDoor
open Go.RowKit Go.ChangeShapes Go.WideShapes

structure ActM where
  way : Int
  n : Int
  p : ByteArray
  q : ByteArray
  b : List Int
  l : List Int
/-- Integers of a slice that came in. -/
def SlCame (k : IntKind) (w : World) (A : Option Addr) (c : Nat) (xs : List Int) : Prop := Lies k w w.heap.size A xs ∧ xs.length ≤ c ∧ c ≤ maxLen ∧ (A = none → c = 0)
theorem SlCame.below {k : IntKind} {w w' : World} {A : Option Addr} {c : Nat} {xs : List Int} (h : SlCame k w A c xs) (hb : Below w.heap.size w w') : SlCame k w' A c xs := ⟨(h.1.below hb).more hb.size, h.2⟩
/-- The call lies from cell o of block b on. -/
def ActAt (w : World) (b o : Nat) (a : ActM) : Prop :=
  ∃ A c B d, w.cell? ⟨b, o, none⟩ = some (.int .i64 a.way) ∧ w.cell? ⟨b, o + 1, none⟩ = some (.int .i64 a.n) ∧ w.cell? ⟨b, o + 2, none⟩ = some (.string a.p) ∧ w.cell? ⟨b, o + 3, none⟩ = some (.string a.q) ∧ w.cell? ⟨b, o + 4, none⟩ = some (.slice A a.b.length c) ∧ w.cell? ⟨b, o + 5, none⟩ = some (.slice B a.l.length d) ∧ SlCame .u8 w A c a.b ∧ SlCame .i64 w B d a.l
def ActM.wf (a : ActM) : Prop := a.p.size ≤ maxLen ∧ a.q.size ≤ maxLen ∧ IsBytes a.b
def ActsLie (w : World) (A : Option Addr) (acts : List ActM) (cap : Nat) : Prop :=
  (acts ≠ [] → ∃ b off, A = some ⟨b, off, none⟩ ∧ b < w.heap.size ∧ ∀ i (h : i < acts.length), ActAt w b (off + i * 6) acts[i]) ∧ acts.length ≤ cap ∧ cap ≤ maxLen ∧ ∀ a ∈ acts, a.wf
theorem acts_of (n : Nat) (Q : Nat → ActM → Prop) (h : ∀ i, i < n → ∃ r, Q i r) : ∃ rs : List ActM, rs.length = n ∧ ∀ i (hi : i < rs.length), Q i rs[i] := by
  induction n with
  | zero => exact ⟨[], rfl, fun i hi => by simp at hi⟩
  | succ n ih =>
    obtain ⟨rs, hl, hq⟩ := ih fun i hi => h i (by omega)
    obtain ⟨r, hr⟩ := h n (by omega)
    refine ⟨rs ++ [r], by simp [hl], fun i hi => ?_⟩
    by_cases hin : i < rs.length
    · rw [List.getElem_append_left hin]
      exact hq i hin
    · have : i = n := by simp at hi; omega
      subst this
      rw [List.getElem_append_right (by omega)]
      simpa [hl] using hr
section
variable {H : Type} {enc : TypeId × Value → H} {w : World} {base : Nat} {held : Bool}
theorem u8s_cell {fuel : Nat} {cs : List Value} {x : DataW H × List MemPlace} (h : DataW.trod enc Tryd.prog w base (fun _ => true) held fuel 31 cs = some x) :
    ∃ A c, ∃ xs : List Int, cs = [.slice A xs.length c] ∧ SlCame .u8 w A c xs ∧ IsBytes xs := by
  rcases open_ints Tryd.underlying31 Tryd.underlying5 (by kernel_rfl) h with ⟨hcs, _⟩ | ⟨x, l, c, zs, hcs, _, hl, hm, hz, _, hcell, hwz⟩
  · exact ⟨none, 0, [], hcs, ⟨Lies.nil, by simp, by simp [maxLen], fun _ => rfl⟩, fun _ h => by cases h⟩
  · obtain ⟨xs, hlen, h1, h2, h3, h4, h5⟩ := row_came (k := .u8) (w := w) (a := some x) (len := l) (cap := c) (zs := zs) (.inr ⟨x, rfl, hl, hm, by simpa using hz, hcell, hwz⟩)
    exact ⟨some x, c, xs, by rw [hcs, hlen], ⟨h3, h1, h2, h5⟩, fun n hn => bounds_u8 (h4 n hn)⟩
theorem ints_cell {fuel : Nat} {cs : List Value} {x : DataW H × List MemPlace} (h : DataW.trod enc Tryd.prog w base (fun _ => true) held fuel 33 cs = some x) :
    ∃ A c, ∃ xs : List Int, cs = [.slice A xs.length c] ∧ SlCame .i64 w A c xs := by
  rcases open_ints Tryd.underlying33 Tryd.underlying3 (by kernel_rfl) h with ⟨hcs, _⟩ | ⟨x, l, c, zs, hcs, _, hl, hm, hz, _, hcell, hwz⟩
  · exact ⟨none, 0, [], hcs, Lies.nil, by simp, by simp [maxLen], fun _ => rfl⟩
  · obtain ⟨xs, hlen, h1, h2, h3, h4, h5⟩ := row_came (k := .i64) (w := w) (a := some x) (len := l) (cap := c) (zs := zs) (.inr ⟨x, rfl, hl, hm, by simpa using hz, hcell, hwz⟩)
    exact ⟨some x, c, xs, by rw [hcs, hlen], h3, h1, h2, h5⟩
set_option maxRecDepth 100000 in
/-- The cells of a call. -/
theorem act_cells {fuel : Nat} {cs : List Value} {x : DataW H × List MemPlace} (h : DataW.trod enc Tryd.prog w base (fun _ => true) held fuel 35 cs = some x) :
    ∃ (a : ActM) (A : Option Addr) (c : Nat) (B : Option Addr) (d : Nat), cs = [.int .i64 a.way, .int .i64 a.n, .string a.p, .string a.q, .slice A a.b.length c, .slice B a.l.length d] ∧ SlCame .u8 w A c a.b ∧ SlCame .i64 w B d a.l ∧ a.wf := by
  obtain ⟨ys, n, _, _, hlen, hyl, hf⟩ := DataW.trod_struct Tryd.underlying35 h
  have hc6 : Tryd.prog.cellsOf 35 = 6 := by kernel_rfl
  rw [hc6] at hlen
  have hy6 : ys.length = 6 := hyl
  obtain ⟨v0, v1, v2, v3, v4, v5, rfl⟩ : ∃ v0 v1 v2 v3 v4 v5, cs = [v0, v1, v2, v3, v4, v5] := by
    match cs, hlen with
    | [v0, v1, v2, v3, v4, v5], _ => exact ⟨v0, v1, v2, v3, v4, v5, rfl⟩
  have c3 : Tryd.prog.cellsOf 3 = 1 := by kernel_rfl
  have c9 : Tryd.prog.cellsOf 9 = 1 := by kernel_rfl
  have cb : Tryd.prog.cellsOf 31 = 1 := by kernel_rfl
  have ci : Tryd.prog.cellsOf 33 = 1 := by kernel_rfl
  have at_ : ∀ (j : Nat) (t : TypeId) (v : Value), j < 6 → ((([v0, v1, v2, v3, v4, v5] : List Value).drop j).take 1) = [v] → DataW.trod enc Tryd.prog w base (fun _ => true) held n t ((([v0, v1, v2, v3, v4, v5] : List Value).drop j).take 1) = ys[j]? → ∃ y, DataW.trod enc Tryd.prog w base (fun _ => true) held n t [v] = some y := by
    intro j t v hj hv h
    rw [hv, List.getElem?_eq_getElem (by omega)] at h
    exact ⟨_, h⟩
  have g0 : DataW.trod enc Tryd.prog w base (fun _ => true) held n 3 ((([v0, v1, v2, v3, v4, v5] : List Value).drop 0).take (Tryd.prog.cellsOf 3)) = ys[0]? := hf 0 _ rfl
  rw [c3] at g0
  have g1 : DataW.trod enc Tryd.prog w base (fun _ => true) held n 3 ((([v0, v1, v2, v3, v4, v5] : List Value).drop 1).take (Tryd.prog.cellsOf 3)) = ys[1]? := hf 1 _ rfl
  rw [c3] at g1
  have g2 : DataW.trod enc Tryd.prog w base (fun _ => true) held n 9 ((([v0, v1, v2, v3, v4, v5] : List Value).drop 2).take (Tryd.prog.cellsOf 9)) = ys[2]? := hf 2 _ rfl
  rw [c9] at g2
  have g3 : DataW.trod enc Tryd.prog w base (fun _ => true) held n 9 ((([v0, v1, v2, v3, v4, v5] : List Value).drop 3).take (Tryd.prog.cellsOf 9)) = ys[3]? := hf 3 _ rfl
  rw [c9] at g3
  have g4 : DataW.trod enc Tryd.prog w base (fun _ => true) held n 31 ((([v0, v1, v2, v3, v4, v5] : List Value).drop 4).take (Tryd.prog.cellsOf 31)) = ys[4]? := hf 4 _ rfl
  rw [cb] at g4
  have g5 : DataW.trod enc Tryd.prog w base (fun _ => true) held n 33 ((([v0, v1, v2, v3, v4, v5] : List Value).drop 5).take (Tryd.prog.cellsOf 33)) = ys[5]? := hf 5 _ rfl
  rw [ci] at g5
  obtain ⟨y0, k0⟩ := at_ 0 3 v0 (by omega) rfl g0
  obtain ⟨y1, k1⟩ := at_ 1 3 v1 (by omega) rfl g1
  obtain ⟨y2, k2⟩ := at_ 2 9 v2 (by omega) rfl g2
  obtain ⟨y3, k3⟩ := at_ 3 9 v3 (by omega) rfl g3
  obtain ⟨y4, k4⟩ := at_ 4 31 v4 (by omega) rfl g4
  obtain ⟨y5, k5⟩ := at_ 5 33 v5 (by omega) rfl g5
  obtain ⟨a, e0, _, w0⟩ := DataW.trod_int Tryd.underlying3 k0
  obtain ⟨m, e1, _, w1⟩ := DataW.trod_int Tryd.underlying3 k1
  obtain ⟨s, e2, _, w2⟩ := DataW.trod_string Tryd.underlying9 k2
  obtain ⟨t, e3, _, w3⟩ := DataW.trod_string Tryd.underlying9 k3
  obtain ⟨A, c, xs, e4, h4, hb⟩ := u8s_cell k4
  obtain ⟨B, d, zs, e5, h5⟩ := ints_cell k5
  refine ⟨⟨a, m, s, t, xs, zs⟩, A, c, B, d, ?_, h4, h5, w2, w3, hb⟩
  simp only [List.cons.injEq, and_true] at e0 e1 e2 e3 e4 e5
  rw [e0, e1, e2, e3, e4, e5]
set_option maxRecDepth 100000 in
/-- A list of calls that came in. -/
theorem acts_came {r0 : Reach} {b0 : Nat} {v : Value} {d : DataW H} {p : List MemPlace} (hv : Value.okWide Tryd.prog w r0 b0 22 v) (h : DataW.Trod enc Tryd.prog w base (fun _ => true) held 22 v d p) :
    ∃ (A : Option Addr) (cap : Nat) (rs : List ActM), v = .slice A rs.length cap ∧ ActsLie w A rs cap := by
  obtain ⟨a, len, cap, rfl⟩ := okWide_slice Tryd.underlying22 hv
  obtain ⟨fuel, hf⟩ := h
  have hc4 : Tryd.prog.cellsOf 35 = 6 := by kernel_rfl
  rcases Go.Deep.open_slice Tryd.underlying22 hf with ⟨hcs, _⟩ | ⟨x, l, c, m, n, D, Pl, hcs, _, hl, hm, hmm, _, hi⟩
  · simp [Value.cells] at hcs
    obtain ⟨rfl, rfl, rfl⟩ := hcs
    exact ⟨none, 0, [], rfl, fun h => absurd rfl h, by simp, by simp [maxLen], fun _ h => by cases h⟩
  · simp [Value.cells] at hcs
    obtain ⟨rfl, rfl, rfl⟩ := hcs
    have hml : len ≤ m := by rw [hmm]; split <;> omega
    have each : ∀ i, i < len → ∃ r : ActM, (∃ A c B d, (∀ j u, ([.int .i64 r.way, .int .i64 r.n, .string r.p, .string r.q, .slice A r.b.length c, .slice B r.l.length d] : List Value)[j]? = some u → w.cell? (x.add (i * 6 + j)) = some u) ∧ SlCame .u8 w A c r.b ∧ SlCame .i64 w B d r.l) ∧ r.wf := by
      intro i hil
      obtain ⟨cs', hcell, ht⟩ := hi i (by omega)
      rw [hc4] at hcell
      obtain ⟨r, A, c, B, d, rfl, h1, h2, hw⟩ := act_cells ht
      obtain ⟨_, _, hat⟩ := World.cells?_some hcell
      refine ⟨r, ⟨A, c, B, d, fun j u hu => ?_, h1, h2⟩, hw⟩
      have hj : j < 6 := by
        rcases Nat.lt_or_ge j 6 with h | h
        · exact h
        · rw [List.getElem?_eq_none (by simpa using h)] at hu; cases hu
      have := hat j hj
      rw [Go.Deep.add_add] at this
      rw [this, hu]
    obtain ⟨rs, rfl, hq⟩ := acts_of len _ each
    refine ⟨some x, cap, rs, rfl, fun hn => ?_, hl, hm, fun r hr => ?_⟩
    · have hp : 0 < rs.length := List.length_pos_iff.2 hn
      obtain ⟨b, off, spot⟩ := x
      obtain ⟨A0, c0, B0, d0, hq0, _⟩ := (hq 0 hp).1
      have h0 := hq0 0 _ rfl
      have hs : spot = none := by simpa [Addr.add] using World.cell?_spot h0
      subst hs
      refine ⟨b, off, rfl, ?_, fun i hi => ?_⟩
      · rw [add_lit] at h0
        exact cell_block_lt h0
      · obtain ⟨A1, c1, B1, d1, q, e1, e2⟩ := (hq i hi).1
        have f : ∀ j u, ([.int .i64 rs[i].way, .int .i64 rs[i].n, .string rs[i].p, .string rs[i].q, .slice A1 rs[i].b.length c1, .slice B1 rs[i].l.length d1] : List Value)[j]? = some u → w.cell? ⟨b, off + i * 6 + j, none⟩ = some u := fun j u hu => by
          have := q j u hu
          rw [add_lit] at this
          rw [Nat.add_assoc]
          exact this
        exact ⟨A1, c1, B1, d1, f 0 _ rfl, f 1 _ rfl, f 2 _ rfl, f 3 _ rfl, f 4 _ rfl, f 5 _ rfl, e1, e2⟩
    · obtain ⟨i, hi, rfl⟩ := List.getElem_of_mem hr
      exact (hq i hi).2
end
/-- Calls that are not too great. -/
def SmallA (a : ActM) : Prop := a.p.size ≤ 100 ∧ a.q.size ≤ 100 ∧ a.b.length ≤ 500 ∧ a.l.length ≤ 50
def Small (acts : List ActM) : Prop := acts.length ≤ 60 ∧ ∀ a ∈ acts, SmallA a
def BigSays (acts : List ActM) (w : World) (e : Ending) (w' : World) : Prop := w' = w ∧ ∃ r, e = .returned (.bool r) ∧ (r = false → Small acts)
set_option maxHeartbeats 1600000 in
set_option maxRecDepth 4000 in
theorem big_any (w0 w : World) (A : Option Addr) (acts : List ActM) (cap : Nat) (h : ActsLie w0 A acts cap) (hb : Below w0.heap.size w0 w) :
    Calls Tryd.prog 5 #[.slice A acts.length cap] w (BigSays acts w) := by
  have HA := Lib.hid h
  have hcl := h.2.1
  have hcm := h.2.2.1
  unfold maxLen at hcm
  clear h
  go_enter Tryd.func5, Tryd.ntmps5
  go_wp2_with fail
  go_loop [3] (fun iv => ∃ i : Nat, iv = .int .i64 i ∧ i ≤ acts.length ∧ ∀ j (h : j < acts.length), j < i → SmallA acts[j]) (fun iv => acts.length - (intOf iv).toNat)
  case atStart => exact ⟨0, rfl, Nat.zero_le _, fun j _ h => absurd h (by omega)⟩
  case round =>
    obtain ⟨i, rfl, hi, hsm⟩ := hrel
    have HSM := Lib.hid hsm
    clear hsm
    by_cases hlt : i < acts.length
    · obtain ⟨b, off, hA, hbl, hat⟩ := HA.out.1 (by rintro rfl; simp at hlt)
      obtain ⟨A1, c1, B1, d1, _, _, f1, f2, f3, f4, _⟩ := hat i hlt
      have g1 := (hb.cell (p := ⟨b, off + i * 6 + 2, none⟩) hbl).trans f1
      have g2 := (hb.cell (p := ⟨b, off + i * 6 + 3, none⟩) hbl).trans f2
      have g3 := (hb.cell (p := ⟨b, off + i * 6 + 4, none⟩) hbl).trans f3
      have g4 := (hb.cell (p := ⟨b, off + i * 6 + 5, none⟩) hbl).trans f4
      subst hA
      obtain ⟨a, ha⟩ : ∃ a, acts[i] = a := ⟨_, rfl⟩
      rw [ha] at g1 g2 g3 g4
      have HAI := Lib.hid ha
      obtain ⟨bl, hbl2⟩ : ∃ n, a.b.length = n := ⟨_, rfl⟩
      obtain ⟨ll, hll⟩ : ∃ n, a.l.length = n := ⟨_, rfl⟩
      obtain ⟨nm, hnm⟩ : ∃ n, a.p = n := ⟨_, rfl⟩
      obtain ⟨qm, hqm⟩ : ∃ n, a.q = n := ⟨_, rfl⟩
      rw [hnm] at g1
      rw [hqm] at g2
      rw [hbl2] at g3
      rw [hll] at g4
      have HB1 := Lib.hid hbl2
      have HB2 := Lib.hid hll
      have HB3 := Lib.hid hnm
      have HB4 := Lib.hid hqm
      clear hat f1 f2 f3 f4 ha hbl2 hll hnm hqm hbl
      by_cases q1 : 100 < nm.size
      · have z1 : decide ((100 : Int) < (nm.size : Int)) = true := decide_eq_true (by omega)
        go_wp2
        go_ret
        exact ⟨rfl, true, rfl, fun h => by cases h⟩
      · have z1 : decide ((100 : Int) < (nm.size : Int)) = false := decide_eq_false (by omega)
        by_cases q4 : 100 < qm.size
        · have z4 : decide ((100 : Int) < (qm.size : Int)) = true := decide_eq_true (by omega)
          go_wp2
          go_ret
          exact ⟨rfl, true, rfl, fun h => by cases h⟩
        · have z4 : decide ((100 : Int) < (qm.size : Int)) = false := decide_eq_false (by omega)
          by_cases q2 : 500 < bl
          · have z2 : decide ((500 : Int) < (bl : Int)) = true := decide_eq_true (by omega)
            go_wp2
            go_ret
            exact ⟨rfl, true, rfl, fun h => by cases h⟩
          · have z2 : decide ((500 : Int) < (bl : Int)) = false := decide_eq_false (by omega)
            by_cases q3 : 50 < ll
            · have z3 : decide ((50 : Int) < (ll : Int)) = true := decide_eq_true (by omega)
              go_wp2
              go_ret
              exact ⟨rfl, true, rfl, fun h => by cases h⟩
            · have z3 : decide ((50 : Int) < (ll : Int)) = false := decide_eq_false (by omega)
              go_wp2
              go_round
              case rel =>
                refine ⟨i + 1, by go_num, hlt, fun j h hj => ?_⟩
                by_cases e : j = i
                · subst e
                  unfold SmallA
                  rw [HAI.out, HB1.out, HB2.out, HB3.out, HB4.out]
                  exact ⟨Nat.le_of_not_lt q1, Nat.le_of_not_lt q4, Nat.le_of_not_lt q2, Nat.le_of_not_lt q3⟩
                · exact HSM.out j h (Nat.lt_of_le_of_ne (Nat.le_of_lt_succ hj) e)
              case measure => simp [intOf]; omega
    · obtain rfl : i = acts.length := by omega
      go_wp2
      go_ret
      refine ⟨rfl, _, rfl, fun h => ⟨?_, fun a ha => ?_⟩⟩
      · simp at h
        omega
      · obtain ⟨j, hj, rfl⟩ := List.getElem_of_mem ha
        exact HSM.out j hj hj
end Go.Proofs.YtefjbefmmmllbaaDoor
