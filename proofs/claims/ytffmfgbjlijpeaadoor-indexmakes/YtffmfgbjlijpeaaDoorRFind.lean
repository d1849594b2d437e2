/- Contracts of the document's own Find and FindTime. -/
import Derived.Test.YtffmfgbjlijpeaaDoorRMark
import Derived.Test.YtffmfgbjlijpeaaDoorRScan
import Derived.Test.YtffmfgbjlijpeaaDoorRecObj
namespace Go.Proofs.YtffmfgbjlijpeaaDoor
open Go.RowKit

/-- The records of bytes from a place on. -/
def TellsBehind (xs : List Int) (pos : Int) (w : World) (e : Ending) (w' : World) : Prop :=
  ∃ (v : Value) (rs : List Rec) (k : Nat), e = .returned v ∧ SegIs none (xs.drop (place pos xs.length)) rs k ∧ OwnR w' w.heap.size v rs ∧ (∀ r ∈ rs, r.right) ∧ rs.length ≤ xs.length ∧ Below w.heap.size w w'
theorem TellsBehind.of_seg {xs : List Int} {pos : Int} {w w' : World} {v : Value} {rs : List Rec} {k n : Nat} (hp : place pos xs.length = n) (hs : SegIs none (xs.drop n) rs k) (ho : OwnR w' w.heap.size v rs) (hr : ∀ r ∈ rs, r.right) (hk : k ≤ (xs.drop n).length) (hl : rs.length ≤ k) (hb : Below w.heap.size w w') :
    TellsBehind xs pos w (.returned v) w' := ⟨v, rs, k, rfl, by rw [hp]; exact hs, ho, hr, by rw [List.length_drop] at hk; omega, hb⟩
/-- What a slice expression 's[n:]' leaves. -/
theorem cut_lies {w : World} {A : Option Addr} {xs : List Int} {c n : Nat} (hl : Lies .u8 w w.heap.size A xs) (hc : xs.length ≤ c) : Lies .u8 w w.heap.size (if c = n then A else A.map (·.add n)) (xs.drop n) := hl.cut hc
set_option maxHeartbeats 1600000 in
theorem refbehind_any (A : Option Addr) (xs : List Int) (c : Nat) (pos : Int) (w : World) (hl : Lies .u8 w w.heap.size A xs) (hby : IsBytes xs) (hc : xs.length ≤ c) (hcm : c ≤ maxLen) (hA : A = none → c = 0) (hxl : xs.length ≤ 549755813888) :
    Calls Tryd.prog 28 #[.slice A xs.length c, .int .i64 pos] w (TellsBehind xs pos w) := by
  obtain ⟨n, hn⟩ : ∃ n, place pos xs.length = n := ⟨_, rfl⟩
  have hnl : n ≤ xs.length := by rw [← hn]; exact place_le _ _
  have hs := refscan_any _ (xs.drop n) (c - n) w (cut_lies (n := n) hl hc) (fun q hq => hby q (List.mem_of_mem_drop hq)) (by rw [List.length_drop]; omega) (by omega) (by rw [List.length_drop]; omega)
  rw [List.length_drop] at hs
  have HN := Lib.hid hn
  unfold maxLen at hcm
  obtain ⟨L, hL⟩ : ∃ L, xs.length = L := ⟨_, rfl⟩
  rw [hL] at hs hnl hc ⊢
  have HLL := Lib.hid hL
  by_cases hp : 0 ≤ pos ∧ pos ≤ (L : Int)
  · have hpn : pos = (n : Int) := by
      rw [← hn]
      unfold place
      rw [hL, if_pos hp]
      omega
    subst hpn
    have q1 : decide ((n : Int) < 0) = false := decide_eq_false (by omega)
    have q2 : decide ((L : Int) < (n : Int)) = false := decide_eq_false (by omega)
    by_cases hcn : c = n
    · subst hcn
      rw [if_pos rfl, Nat.sub_self] at hs
      have hLc : L = c := by omega
      subst hLc
      rw [Nat.sub_self] at hs
      have HS := Lib.hid hs
      clear hs hn hl hby hA hL hp
      go_enter Tryd.func28, Tryd.ntmps28
      go_wp2_with fail
      refine HS.out.mono ?_
      rintro e w1 ⟨v, rs, k, rfl, h1, h2, h3, h4, h5, h6⟩
      have HF := Lib.hid (TellsBehind.of_seg HN.out h1 h2 h3 h4 h5 h6)
      clear h1 h2 h3 h4 h5 h6
      go_wp2
      go_ret
      exact HF.out
    · rw [if_neg hcn] at hs
      obtain ⟨a, rfl⟩ : ∃ a, A = some a := by
        cases A with
        | none => exact absurd (hA rfl) (by omega)
        | some a => exact ⟨a, rfl⟩
      have HS := Lib.hid hs
      clear hs hn hl hby hA hL hp
      dsimp only [Option.map] at HS
      go_enter Tryd.func28, Tryd.ntmps28
      go_wp2_with fail
      refine HS.out.mono ?_
      rintro e w1 ⟨v, rs, k, rfl, h1, h2, h3, h4, h5, h6⟩
      have HF := Lib.hid (TellsBehind.of_seg HN.out h1 h2 h3 h4 h5 h6)
      clear h1 h2 h3 h4 h5 h6
      go_wp2
      go_ret
      exact HF.out
  · have hn0 : n = 0 := by
      rw [← hn]
      unfold place
      rw [hL, if_neg hp]
    subst hn0
    have hor : pos < 0 ∨ (¬ pos < 0 ∧ (L : Int) < pos) := by omega
    have hA2 : (if c = 0 then A else A.map (·.add 0)) = A := by
      split
      · rfl
      · cases A with
        | none => rfl
        | some a => simp [Addr.add]
    rw [hA2, Nat.sub_zero, Nat.sub_zero] at hs
    have HS := Lib.hid hs
    clear hs hn hl hby hL hA2 hp
    rcases hor with hlt | ⟨hlt, hgt⟩
    · have q1 : decide (pos < 0) = true := decide_eq_true hlt
      clear hlt
      go_enter Tryd.func28, Tryd.ntmps28
      go_wp2_with fail
      refine HS.out.mono ?_
      rintro e w1 ⟨v, rs, k, rfl, h1, h2, h3, h4, h5, h6⟩
      have HF := Lib.hid (TellsBehind.of_seg HN.out h1 h2 h3 h4 h5 h6)
      clear h1 h2 h3 h4 h5 h6
      go_wp2
      go_ret
      exact HF.out
    · have q1 : decide (pos < 0) = false := decide_eq_false hlt
      have q2 : decide ((L : Int) < pos) = true := decide_eq_true hgt
      clear hlt hgt
      go_enter Tryd.func28, Tryd.ntmps28
      go_wp2_with fail
      refine HS.out.mono ?_
      rintro e w1 ⟨v, rs, k, rfl, h1, h2, h3, h4, h5, h6⟩
      have HF := Lib.hid (TellsBehind.of_seg HN.out h1 h2 h3 h4 h5 h6)
      clear h1 h2 h3 h4 h5 h6
      go_wp2
      go_ret
      exact HF.out
/-- What a search answers. -/
def TellsFound (o : Option Rec) (w : World) (e : Ending) (w' : World) : Prop :=
  (o = none ∧ e = .returned (.tuple #[.agg #[.int .i64 0, .int .i64 0, .string ⟨#[]⟩, .string ⟨#[]⟩, .bool false], .bool false]) ∨
    ∃ xo xt xk xv xd, o = some ⟨xo, xt, xk, xv, xd⟩ ∧ e = .returned (.tuple #[.agg #[.int .i64 xo, .int .i64 xt, .string xk, .string xv, .bool xd], .bool true])) ∧ Below w.heap.size w w'
/-- The first one that is so, of bytes' records from a place on. -/
def TellsFirstOf (xs : List Int) (pos : Int) (p : Rec → Bool) (w : World) (e : Ending) (w' : World) : Prop :=
  ∃ (rs : List Rec) (k : Nat), SegIs none (xs.drop (place pos xs.length)) rs k ∧ (∀ r ∈ rs, r.right) ∧ TellsFound (rs.find? p) w e w'
theorem TellsFirstOf.none {xs : List Int} {pos : Int} {p : Rec → Bool} {w w' : World} {rs : List Rec} {k : Nat} (hs : SegIs Option.none (xs.drop (place pos xs.length)) rs k) (hr : ∀ r ∈ rs, r.right) (hf : rs.find? p = Option.none) (hb : Below w.heap.size w w') :
    TellsFirstOf xs pos p w (.returned (.tuple #[.agg #[.int .i64 0, .int .i64 0, .string ⟨#[]⟩, .string ⟨#[]⟩, .bool false], .bool false])) w' := ⟨rs, k, hs, hr, .inl ⟨hf, rfl⟩, hb⟩
theorem TellsFirstOf.some {xs : List Int} {pos : Int} {p : Rec → Bool} {w w' : World} {rs : List Rec} {k : Nat} {xo xt : Int} {xk xv : ByteArray} {xd : Bool} (hs : SegIs Option.none (xs.drop (place pos xs.length)) rs k) (hr : ∀ r ∈ rs, r.right) (hf : rs.find? p = Option.some ⟨xo, xt, xk, xv, xd⟩) (hb : Below w.heap.size w w') :
    TellsFirstOf xs pos p w (.returned (.tuple #[.agg #[.int .i64 xo, .int .i64 xt, .string xk, .string xv, .bool xd], .bool true])) w' := ⟨rs, k, hs, hr, .inr ⟨_, _, _, _, _, hf, rfl⟩, hb⟩
set_option maxRecDepth 100000 in
set_option maxHeartbeats 1600000 in
theorem reffind_any (S : Nat → Prop) (A : Option Addr) (xs : List Int) (c : Nat) (B : Option Addr) (ms : List MarkM) (d : Nat) (n : Int) (w : World) (hm : RowsLie markRep w S B ms d) (hS : ∀ b, S b → b < w.heap.size) (hl : Lies .u8 w w.heap.size A xs) (hby : IsBytes xs) (hc : xs.length ≤ c) (hcm : c ≤ maxLen) (hA : A = none → c = 0) (hxl : xs.length ≤ 549755813888) :
    Calls Tryd.prog 13 #[.slice A xs.length c, .slice B ms.length d, .int .i64 n] w (TellsFirstOf xs (seekM ms n) (geO n) w) := by
  have HBW : Hid (Below w.heap.size w (w.alloc (recO zeroR))) := Lib.hid ((Below.refl _ _).alloc (Nat.le_refl _) _)
  have HRES : Hid (∀ W, Below (w.alloc (recO zeroR)).heap.size (w.alloc (recO zeroR)) W → W.heap[w.heap.size]? = some (recO zeroR)) := Lib.hid fun W hb => by
    rw [hb.block _ (by simp), heap_alloc_new]
  have HSK := Lib.hid (refseek_any (w.alloc (recO zeroR)) S B ms d (hm.below HBW.out hS) n)
  have HBH := Lib.hid (fun pos => refbehind_any A xs c pos (w.alloc (recO zeroR)) ((hl.below HBW.out).more HBW.out.size) hby hc hcm hA hxl)
  obtain ⟨pos, hpos⟩ : ∃ pos, seekM ms n = pos := ⟨_, rfl⟩
  rw [hpos] at HSK ⊢
  have hmc := hm.2.1
  have hmm := hm.2.2
  clear hl hby hA hm hpos
  unfold maxLen at hcm hmm
  unfold recO zeroR at HBW HRES HSK HBH
  dsimp only at HBW HRES HSK HBH
  go_enter Tryd.func13, Tryd.ntmps13
  go_wp2_with fail
  refine HSK.out.mono ?_
  rintro e w1 ⟨rfl, rfl⟩
  go_wp2_with fail
  refine (HBH.out pos).mono ?_
  rintro e w2 ⟨v2, rs, k, rfl, h1, h2, h3, h4, h5⟩
  have hr2 : w2.heap[w.heap.size]? = some (recO zeroR) := HRES.out w2 h5
  have HB2 := Lib.hid (HBW.out.trans (h5.mono HBW.out.size))
  obtain ⟨Aq, cq, rfl, pq, _⟩ := h2.parts fun r hr => (h3 r hr).wf
  have hq1 := pq.2.1
  have hq2 := pq.2.2.1
  unfold maxLen at hq2
  have H1 := Lib.hid h1
  have H2 := Lib.hid pq
  have H3 := Lib.hid h3
  have HR2 := Lib.hid hr2
  clear h1 h2 h3 h5 pq HSK HBH HRES HBW hr2
  have hll : rs.length ≤ 549755813888 := Nat.le_trans h4 hxl
  clear h4 hxl
  go_wp2_with fail
  go_loop [9] (fun iv => ∃ i : Nat, iv = .int .i64 i ∧ i ≤ rs.length ∧ (rs.take i).find? (geO n) = none) (fun iv => rs.length - (intOf iv).toNat)
  case atStart => exact ⟨0, rfl, Nat.zero_le _, rfl⟩
  case round =>
    obtain ⟨i, rfl, hi, hnf⟩ := hrel
    have HNF := Lib.hid hnf
    clear hnf
    have hr2 := HR2.out
    by_cases hlt : i < rs.length
    · obtain ⟨b, off, rfl, hbl, hat⟩ := H2.out.more hlt
      obtain ⟨g0, g1, g2, g3, g4⟩ := hat
      have HY := Lib.hid (fun hp => find_here (p := geO n) hlt HNF.out hp)
      have HN := Lib.hid (fun hp => find_skip (p := geO n) hlt HNF.out hp)
      obtain ⟨x, hx⟩ : ∃ x, rs[i] = x := ⟨_, rfl⟩
      rw [hx] at g0 g1 g2 g3 g4 HY HN
      obtain ⟨xo, xt, xk, xv, xd⟩ := x
      dsimp only at g0 g1 g2 g3 g4 HY HN
      clear hx
      by_cases hp : n ≤ xo
      · have hq : decide (n ≤ xo) = true := decide_eq_true hp
        have HE := Lib.hid (HY.out hq)
        clear HY HN hp
        obtain ⟨⟨r0, r1, r2, r3, r4⟩, rf⟩ := obj_cells hr2
        have r0f := rf 0
        have r1f := rf 1
        have r2f := rf 2
        have r3f := rf 3
        have r4f := rf 4
        obtain ⟨k0, k1, k2, k3, k4⟩ := five_cells hr2 (.int .i64 xo) (.int .i64 xt) (.string xk) (.string xv) (.bool xd)
        have HK := Lib.hid (And.intro k0 (And.intro k1 (And.intro k2 (And.intro k3 k4))))
        clear rf k0 k1 k2 k3 k4 hr2
        go_wp2_with fail
        obtain ⟨k0, k1, k2, k3, k4⟩ := HK.out
        (try simp only [Exit.inBlock, Exit.then])
        refine bodyPost_ret (by simp [results, Tryd.results13, go_sem, k0, k1, k2, k3, k4]; try rfl) rfl ?_
        exact TellsFirstOf.some H1.out H3.out HE.out (((((HB2.out.setCell (Nat.le_refl _) _).setCell (Nat.le_refl _) _).setCell (Nat.le_refl _) _).setCell (Nat.le_refl _) _).setCell (Nat.le_refl _) _)
      · have hq : decide (n ≤ xo) = false := decide_eq_false hp
        have HE := Lib.hid (HN.out (by unfold geO; rw [hq]; decide))
        clear HY HN hp
        go_wp2
        go_round
        case rel => exact ⟨i + 1, by go_num, hlt, HE.out⟩
        case measure => simp [intOf]; omega
    · obtain rfl : i = rs.length := by omega
      have hnf := HNF.out
      rw [List.take_length] at hnf
      have HF := Lib.hid hnf
      obtain ⟨⟨r0, r1, r2, r3, r4⟩, rf⟩ := obj_cells hr2
      have r0f := rf 0
      have r1f := rf 1
      have r2f := rf 2
      have r3f := rf 3
      have r4f := rf 4
      clear rf hnf
      go_wp2
      obtain ⟨k0, k1, k2, k3, k4⟩ := five_cells hr2 (.int .i64 0) (.int .i64 0) (.string ⟨#[]⟩) (.string ⟨#[]⟩) (.bool false)
      (try simp only [Exit.inBlock, Exit.then])
      refine bodyPost_ret (by simp [results, Tryd.results13, go_sem, k0, k1, k2, k3, k4]; try rfl) rfl ?_
      exact TellsFirstOf.none H1.out H3.out HF.out (((((HB2.out.setCell (Nat.le_refl _) _).setCell (Nat.le_refl _) _).setCell (Nat.le_refl _) _).setCell (Nat.le_refl _) _).setCell (Nat.le_refl _) _)
set_option maxRecDepth 100000 in
set_option maxHeartbeats 1600000 in
theorem reffindtime_any (S : Nat → Prop) (A : Option Addr) (xs : List Int) (c : Nat) (B : Option Addr) (ms : List MarkM) (d : Nat) (n : Int) (w : World) (hm : RowsLie markRep w S B ms d) (hS : ∀ b, S b → b < w.heap.size) (hl : Lies .u8 w w.heap.size A xs) (hby : IsBytes xs) (hc : xs.length ≤ c) (hcm : c ≤ maxLen) (hA : A = none → c = 0) (hxl : xs.length ≤ 549755813888) :
    Calls Tryd.prog 15 #[.slice A xs.length c, .slice B ms.length d, .int .i64 n] w (TellsFirstOf xs (seekTM ms n) (geT n) w) := by
  have HBW : Hid (Below w.heap.size w (w.alloc (recO zeroR))) := Lib.hid ((Below.refl _ _).alloc (Nat.le_refl _) _)
  have HRES : Hid (∀ W, Below (w.alloc (recO zeroR)).heap.size (w.alloc (recO zeroR)) W → W.heap[w.heap.size]? = some (recO zeroR)) := Lib.hid fun W hb => by
    rw [hb.block _ (by simp), heap_alloc_new]
  have HSK := Lib.hid (refseektime_any (w.alloc (recO zeroR)) S B ms d (hm.below HBW.out hS) n)
  have HBH := Lib.hid (fun pos => refbehind_any A xs c pos (w.alloc (recO zeroR)) ((hl.below HBW.out).more HBW.out.size) hby hc hcm hA hxl)
  obtain ⟨pos, hpos⟩ : ∃ pos, seekTM ms n = pos := ⟨_, rfl⟩
  rw [hpos] at HSK ⊢
  have hmc := hm.2.1
  have hmm := hm.2.2
  clear hl hby hA hm hpos
  unfold maxLen at hcm hmm
  unfold recO zeroR at HBW HRES HSK HBH
  dsimp only at HBW HRES HSK HBH
  go_enter Tryd.func15, Tryd.ntmps15
  go_wp2_with fail
  refine HSK.out.mono ?_
  rintro e w1 ⟨rfl, rfl⟩
  go_wp2_with fail
  refine (HBH.out pos).mono ?_
  rintro e w2 ⟨v2, rs, k, rfl, h1, h2, h3, h4, h5⟩
  have hr2 : w2.heap[w.heap.size]? = some (recO zeroR) := HRES.out w2 h5
  have HB2 := Lib.hid (HBW.out.trans (h5.mono HBW.out.size))
  obtain ⟨Aq, cq, rfl, pq, _⟩ := h2.parts fun r hr => (h3 r hr).wf
  have hq1 := pq.2.1
  have hq2 := pq.2.2.1
  unfold maxLen at hq2
  have H1 := Lib.hid h1
  have H2 := Lib.hid pq
  have H3 := Lib.hid h3
  have HR2 := Lib.hid hr2
  clear h1 h2 h3 h5 pq HSK HBH HRES HBW hr2
  have hll : rs.length ≤ 549755813888 := Nat.le_trans h4 hxl
  clear h4 hxl
  go_wp2_with fail
  go_loop [9] (fun iv => ∃ i : Nat, iv = .int .i64 i ∧ i ≤ rs.length ∧ (rs.take i).find? (geT n) = none) (fun iv => rs.length - (intOf iv).toNat)
  case atStart => exact ⟨0, rfl, Nat.zero_le _, rfl⟩
  case round =>
    obtain ⟨i, rfl, hi, hnf⟩ := hrel
    have HNF := Lib.hid hnf
    clear hnf
    have hr2 := HR2.out
    by_cases hlt : i < rs.length
    · obtain ⟨b, off, rfl, hbl, hat⟩ := H2.out.more hlt
      obtain ⟨g0, g1, g2, g3, g4⟩ := hat
      have HY := Lib.hid (fun hp => find_here (p := geT n) hlt HNF.out hp)
      have HN := Lib.hid (fun hp => find_skip (p := geT n) hlt HNF.out hp)
      obtain ⟨x, hx⟩ : ∃ x, rs[i] = x := ⟨_, rfl⟩
      rw [hx] at g0 g1 g2 g3 g4 HY HN
      obtain ⟨xo, xt, xk, xv, xd⟩ := x
      dsimp only at g0 g1 g2 g3 g4 HY HN
      clear hx
      by_cases hp : n ≤ xt
      · have hq : decide (n ≤ xt) = true := decide_eq_true hp
        have HE := Lib.hid (HY.out hq)
        clear HY HN hp
        obtain ⟨⟨r0, r1, r2, r3, r4⟩, rf⟩ := obj_cells hr2
        have r0f := rf 0
        have r1f := rf 1
        have r2f := rf 2
        have r3f := rf 3
        have r4f := rf 4
        obtain ⟨k0, k1, k2, k3, k4⟩ := five_cells hr2 (.int .i64 xo) (.int .i64 xt) (.string xk) (.string xv) (.bool xd)
        have HK := Lib.hid (And.intro k0 (And.intro k1 (And.intro k2 (And.intro k3 k4))))
        clear rf k0 k1 k2 k3 k4 hr2
        go_wp2_with fail
        obtain ⟨k0, k1, k2, k3, k4⟩ := HK.out
        (try simp only [Exit.inBlock, Exit.then])
        refine bodyPost_ret (by simp [results, Tryd.results15, go_sem, k0, k1, k2, k3, k4]; try rfl) rfl ?_
        exact TellsFirstOf.some H1.out H3.out HE.out (((((HB2.out.setCell (Nat.le_refl _) _).setCell (Nat.le_refl _) _).setCell (Nat.le_refl _) _).setCell (Nat.le_refl _) _).setCell (Nat.le_refl _) _)
      · have hq : decide (n ≤ xt) = false := decide_eq_false hp
        have HE := Lib.hid (HN.out (by unfold geT; rw [hq]; decide))
        clear HY HN hp
        go_wp2
        go_round
        case rel => exact ⟨i + 1, by go_num, hlt, HE.out⟩
        case measure => simp [intOf]; omega
    · obtain rfl : i = rs.length := by omega
      have hnf := HNF.out
      rw [List.take_length] at hnf
      have HF := Lib.hid hnf
      obtain ⟨⟨r0, r1, r2, r3, r4⟩, rf⟩ := obj_cells hr2
      have r0f := rf 0
      have r1f := rf 1
      have r2f := rf 2
      have r3f := rf 3
      have r4f := rf 4
      clear rf hnf
      go_wp2
      obtain ⟨k0, k1, k2, k3, k4⟩ := five_cells hr2 (.int .i64 0) (.int .i64 0) (.string ⟨#[]⟩) (.string ⟨#[]⟩) (.bool false)
      (try simp only [Exit.inBlock, Exit.then])
      refine bodyPost_ret (by simp [results, Tryd.results15, go_sem, k0, k1, k2, k3, k4]; try rfl) rfl ?_
      exact TellsFirstOf.none H1.out H3.out HF.out (((((HB2.out.setCell (Nat.le_refl _) _).setCell (Nat.le_refl _) _).setCell (Nat.le_refl _) _).setCell (Nat.le_refl _) _).setCell (Nat.le_refl _) _)
end Go.Proofs.YtffmfgbjlijpeaaDoor
