/- A contract of the program's own Rename. -/
import Derived.Test.YtefjbefmmmllbaaDoorVDCut
namespace Go.Proofs.YtefjbefmmmllbaaDoor
open Go.RowKit Go.Maps

section
variable {base : Nat} {S : Nat → Prop} {w : World} {p : Nat} {room u : Int} {fs : List FileP}
theorem delP_filter {n : ByteArray} (hr : Rising (filesP fs)) (h : hasF (filesP fs) n = true) : delP fs n = fs.filter (fun x => decide (x.f.name ≠ n)) := by
  induction fs with
  | nil => cases h
  | cons a t ih =>
    rw [filesP_cons] at hr h
    obtain ⟨r1, r2⟩ := List.pairwise_cons.1 hr
    rw [hasF_cons] at h
    by_cases e : ltS a.f.name n = true
    · rw [if_pos e] at h
      rw [delP_lt e, List.filter_cons, if_pos (by simpa using ltS_ne e), ih r2 h]
    · rw [if_neg e] at h
      obtain rfl := of_decide_eq_true h
      rw [delP_eq, List.filter_cons, if_neg (by simp)]
      exact (List.filter_eq_self.2 fun y hy => by simpa using (ltS_ne (r1 y.f (List.mem_map.2 ⟨y, hy, rfl⟩))).symm).symm
theorem mem_del_ne {n : ByteArray} (hr : Rising (filesP fs)) (h : hasF (filesP fs) n = true) {y : FileP} (hy : y ∈ delP fs n) : y.f.name ≠ n := by
  rw [delP_filter hr h] at hy
  simpa using (List.mem_filter.1 hy).2
theorem mem_del {n : ByteArray} (hr : Rising (filesP fs)) (h : hasF (filesP fs) n = true) {y : FileP} (hy : y ∈ fs) (hn : y.f.name ≠ n) : y ∈ delP fs n := by
  rw [delP_filter hr h]
  exact List.mem_filter.2 ⟨hy, by simpa using hn⟩
theorem del_comm {a b : ByteArray} (hr : Rising (filesP fs)) (ha : hasF (filesP fs) a = true) (hb : hasF (filesP fs) b = true) (hn : a ≠ b) : delP (delP fs b) a = delP (delP fs a) b := by
  obtain ⟨x, hx, hxa, _⟩ := has_file ha
  obtain ⟨y, hy, hyb, _⟩ := has_file hb
  have h1 : hasF (filesP (delP fs b)) a = true := by rw [← hxa]; exact file_has (delP_rising hr) (mem_del hr hb hx (by rw [hxa]; exact hn))
  have h2 : hasF (filesP (delP fs a)) b = true := by rw [← hyb]; exact file_has (delP_rising hr) (mem_del hr ha hy (by rw [hyb]; exact hn.symm))
  rw [delP_filter (delP_rising hr) h1, delP_filter (delP_rising hr) h2, delP_filter hr ha, delP_filter hr hb, List.filter_filter, List.filter_filter]
  congr 1
  funext z
  rw [Bool.and_comm]
theorem lay_del {x : FileP} (hr : Rising (filesP fs)) (h : hasF (filesP fs) x.f.name = true) : layP (delP fs x.f.name) x = layP fs x := by
  induction fs with
  | nil => cases h
  | cons a t ih =>
    rw [filesP_cons] at hr h
    obtain ⟨r1, r2⟩ := List.pairwise_cons.1 hr
    rw [hasF_cons] at h
    by_cases e : ltS a.f.name x.f.name = true
    · rw [if_pos e] at h
      rw [delP_lt e, layP_lt e, layP_lt e, ih r2 h]
    · rw [if_neg e] at h
      have e2 := of_decide_eq_true h
      rw [layP_eq e2, ← e2, delP_eq]
      cases t with
      | nil => rw [layP_nil]
      | cons b t' =>
        rw [layP_gt]
        rw [← e2]
        exact r1 b.f (List.mem_map.2 ⟨b, by simp, rfl⟩)
/-- The file of x, under another name. -/
def named (x : FileP) (b : ByteArray) : FileP := ⟨⟨b, x.f.b, x.f.loose⟩, x.g, x.v⟩
theorem ren_strike (hV : VDiskU base S w p room u fs) {a : ByteArray} (hn : a.size ≤ maxLen) (hh : hasF (filesP fs) a = true) :
    ∃ mo w', w.cell? ⟨p, 2, none⟩ = some (.map mo) ∧ (∀ ty, (Builtin.delete_ #[42, 9] ty #[.map mo, .string a]).run Tryd.prog w = .ok (.tuple #[]) w') ∧ Keep S w w' ∧ (∀ y, VFile base S w y → VFile base (Grow S w w') w' y) ∧ VDiskU base (Grow S w w') w' p room u (delP fs a) := by
  obtain ⟨mo, hp, hm⟩ := hV.block
  obtain ⟨mb, w', hmo, hS, hrun, ht, ho⟩ := hm.strike hV.row.rising hn hh 0
  have hgr := ht.grown
  have h3 : w.ownsMap Tryd.prog 9 ptrElem mb fs.length (mapD fs) := by
    rcases hm with ⟨h1, _⟩ | ⟨mb', h1, h2, h3⟩
    · rw [h1] at hmo; cases hmo
    · obtain rfl : mb' = mb := by rw [h1] at hmo; injection hmo
      exact h3
  have hk : Keep S w w' := (Keep.refl S w).grown hgr fun k hk => .inl (by injection hk with hk; rw [← hk]; exact hS)
  have oth : ∀ {i : Nat} {cs : Array Value} {t : TypeId}, w.heap[i]? = some (.cells cs t (0, 0)) → w'.heap[i]? = w.heap[i]? := fun {i cs t} hi =>
    hgr.block i (Array.getElem?_eq_some_iff.1 hi).1 (fun e => map_apart hi h3 (by injection e))
  have hoy : ∀ y, VFile base S w y → w'.heap[y.g]? = w.heap[y.g]? ∧ ∀ g, y.v.ownBlock = some g → w'.heap[g]? = w.heap[g]? := fun y hy => by
    refine ⟨oth hy.block, fun b hb => ?_⟩
    obtain ⟨cur, hc⟩ := own_block hy.own hb
    exact oth hc
  refine ⟨mo, w', by unfold World.cell?; rw [hp]; rfl, fun ty => hrun, hk, fun y hy => hy.same (fun _ => .inl) (hoy y hy).1 (hoy y hy).2, hV.del hk (fun y hy => hoy y (hV.row.file y hy)) ⟨mo, by rw [oth hp]; exact hp, .inr ⟨mb, hmo, .inl hS, ho⟩⟩⟩

/-- From the dropped name on: the old name struck, the new one set. -/
theorem ren_tail (hV : VDiskU base S w p room u fs) {x : FileP} (hx : x ∈ fs) {b : ByteArray} (hb : b.size ≤ 281474976710656) (ha : x.f.name.size ≤ maxLen) (hfl : fs.length < 1000000000) :
    ∃ mo w', w.cell? ⟨p, 2, none⟩ = some (.map mo) ∧ (∀ ty, (Builtin.delete_ #[42, 9] ty #[.map mo, .string x.f.name]).run Tryd.prog w = .ok (.tuple #[]) w') ∧
      Calls Tryd.prog 15 #[.pointer (some ⟨p, 0, none⟩), .string b, .pointer (some ⟨x.g, 0, none⟩)] w' fun e w'' => e = .returned (.tuple #[]) ∧ Left base S w w'' p room u (layP (delP fs x.f.name) (named x b)) := by
  have hh := file_has hV.row.rising hx
  obtain ⟨mo, w', c2, hrun, hk, hfile, hV'⟩ := ren_strike hV ha hh
  have hxf := hfile x (hV.row.file x hx)
  refine ⟨mo, w', c2, hrun, (vset_any hV' (named x b) ⟨hxf.inS, hxf.block, hxf.own, hxf.row, by unfold maxLen; exact Nat.le_trans hb (by omega), hxf.wf.2⟩ (fun y hy _ => ?_) hb ?_).mono ?_⟩
  · exact apart_of hV.row hx (mem_delP hy) (mem_del_ne hV.row.rising hh hy)
  · exact Nat.lt_of_le_of_lt (delP_sub fs _).length_le hfl
  · rintro e w'' ⟨rfl, hk2, hV2⟩
    exact ⟨rfl, Left.trans hV.within hk ⟨hk2, hV2⟩⟩
theorem used_ren {x : FileP} (hr : Rising (filesP fs)) (hx : x ∈ fs) {b : ByteArray} (hnb : ∀ y ∈ fs, y.f.name ≠ b) : usedM (filesP (layP (delP fs x.f.name) (named x b))) = usedM (filesP fs) := by
  rw [used_new fun y hy => hnb y (mem_delP hy)]
  have := used_del hr hx
  have e : (named x b).f.b.length = x.f.b.length := rfl
  omega

theorem renameM_bad {l : List FileM} {a b : ByteArray} (h : validS a = false ∨ validS b = false) : renameM l a b = (l, 6) := by unfold renameM; rw [if_pos h]
theorem renameM_none {l : List FileM} {a b : ByteArray} (ha : validS a = true) (hb : validS b = true) (hh : hasF l a = false) : renameM l a b = (l, 8) := by
  unfold renameM
  rw [if_neg (by rw [ha, hb]; simp), getM_none ha hh, if_pos (by simp)]
theorem renameM_self {x : FileP} (hr : Rising (filesP fs)) (hx : x ∈ fs) (h : validS x.f.name = true) : renameM (filesP fs) x.f.name x.f.name = (filesP fs, 0) := by
  unfold renameM
  rw [if_neg (by rw [h]; simp), getP_some hr hx h, if_neg (by simp), if_pos rfl]
theorem renameM_some {x : FileP} {b : ByteArray} (hr : Rising (filesP fs)) (hx : x ∈ fs) (h : validS x.f.name = true) (hb : validS b = true) (hne : x.f.name ≠ b) : renameM (filesP fs) x.f.name b = (filesP (layP (delP fs x.f.name) (named x b)), 0) := by
  unfold renameM
  rw [if_neg (by rw [h, hb]; simp), getP_some hr hx h, if_neg (by simp), if_neg hne, removeM_some hr hx h, filesP_layP]
  rfl
set_option maxHeartbeats 1600000 in
theorem vrename_any (hV : VDisk base S w p room fs) (a b : ByteArray) (ha : a.size ≤ 281474976710656) (hb : b.size ≤ 281474976710656) (hT : Tabs w) (hu : usedM (filesP fs) ≤ 1099511627776) (hfl : fs.length < 1000000000) :
    Calls Tryd.prog 21 #[.pointer (some ⟨p, 0, none⟩), .string a, .string b] w (Does base S p room (renameM (filesP fs) a b) w) := by
  have ham : a.size ≤ maxLen := by unfold maxLen; omega
  have hbm : b.size ≤ maxLen := by unfold maxLen; omega
  have HV := Lib.hid hV
  have hcb := valid_any b w hbm hT
  cases hvb : validS b with
  | false =>
    rw [hvb] at hcb
    have HC := Lib.hid hcb
    have HE := Lib.hid (renameM_bad (l := filesP fs) (a := a) (.inr hvb))
    clear hV ha hb hT hcb hvb ham hbm hu hfl
    go_enter Tryd.func21, Tryd.ntmps21
    go_wp2_with fail
    refine HC.out.mono ?_
    rintro e w1 ⟨rfl, hb⟩
    go_wp2
    go_ret
    exact Does.err HV.out hb (by rw [HE.out]) (by rw [HE.out])
  | true =>
    rw [hvb] at hcb
    have HCB := Lib.hid hcb
    clear hcb
    cases hva : validS a with
    | false =>
      have HC := Lib.hid (fun w1 (h : Below w.heap.size w w1) => vfind_bad (w := w1) (p := p) a ham (hT.below h) hva)
      have HE := Lib.hid (renameM_bad (l := filesP fs) (b := b) (.inl hva))
      clear hV ha hb hT hvb hva ham hbm hu hfl
      go_enter Tryd.func21, Tryd.ntmps21
      go_wp2_with fail
      refine HCB.out.mono ?_
      rintro e w1 ⟨rfl, hb1⟩
      go_wp2_with fail
      refine (HC.out w1 hb1).mono ?_
      rintro e w2 ⟨rfl, hb2⟩
      go_wp2
      go_ret
      exact Does.err HV.out (hb1.trans (hb2.mono hb1.size)) (by rw [HE.out]) (by rw [HE.out])
    | true =>
      cases hh : hasF (filesP fs) a with
      | false =>
        have HC := Lib.hid (fun w1 (h : Below w.heap.size w w1) => vfind_none (hV.below h) a ham (hT.below h) hva hh)
        have HE := Lib.hid (renameM_none hva hvb hh)
        clear hV ha hb hT hvb hva ham hbm hu hh hfl
        go_enter Tryd.func21, Tryd.ntmps21
        go_wp2_with fail
        refine HCB.out.mono ?_
        rintro e w1 ⟨rfl, hb1⟩
        go_wp2_with fail
        refine (HC.out w1 hb1).mono ?_
        rintro e w2 ⟨rfl, hb2⟩
        go_wp2
        go_ret
        exact Does.err HV.out (hb1.trans (hb2.mono hb1.size)) (by rw [HE.out]) (by rw [HE.out])
      | true =>
        obtain ⟨x, hx, rfl, _⟩ := has_file hh
        have HC := Lib.hid (fun w1 (h : Below w.heap.size w w1) => vfind_some (hV.below h) x hx _ rfl ham (hT.below h) hva)
        by_cases hab : x.f.name = b
        · subst hab
          have HE := Lib.hid (renameM_self hV.row.rising hx hva)
          obtain ⟨nm, hnm⟩ : ∃ nm, x.f.name = nm := ⟨_, rfl⟩
          obtain ⟨g, hg⟩ : ∃ g, x.g = g := ⟨_, rfl⟩
          rw [hnm] at HC HE HCB ⊢
          rw [hg] at HC
          clear hV ha hb hT hvb hva ham hbm hu hh hx hnm hg hfl
          have hq : (nm.toList == nm.toList) = true := by simp
          go_enter Tryd.func21, Tryd.ntmps21
          go_wp2_with fail
          refine HCB.out.mono ?_
          rintro e w1 ⟨rfl, hb1⟩
          go_wp2_with fail
          refine (HC.out w1 hb1).mono ?_
          rintro e w2 ⟨rfl, hb2⟩
          go_wp2
          go_ret
          exact Does.err HV.out (hb1.trans (hb2.mono hb1.size)) (by rw [HE.out]) (by rw [HE.out])
        · rw [renameM_some hV.row.rising hx hva hvb hab]
          have fin : ∀ w1, Below w.heap.size w w1 → Calls Tryd.prog 43 #[.pointer (some ⟨p, 0, none⟩), .string b] w1 fun e w2 => e = .returned (.tuple #[]) ∧
              ∃ mo w3, w2.cell? ⟨p, 2, none⟩ = some (.map mo) ∧ (∀ ty, (Builtin.delete_ #[42, 9] ty #[.map mo, .string x.f.name]).run Tryd.prog w2 = .ok (.tuple #[]) w3) ∧
              Calls Tryd.prog 15 #[.pointer (some ⟨p, 0, none⟩), .string b, .pointer (some ⟨x.g, 0, none⟩)] w3 fun e w4 => e = .returned (.tuple #[]) ∧
                ∃ fs', filesP fs' = filesP (layP (delP fs x.f.name) (named x b)) ∧ Left base S w w4 p room ((usedM (filesP fs') : Nat) : Int) fs' := fun w1 hb1 => by
            have hV1 := hV.below hb1
            cases hhb : hasF (filesP fs) b with
            | false =>
              refine (vdrop_none hV1 b hbm hhb).mono ?_
              rintro e w2 ⟨rfl, rfl⟩
              have hnb := not_file hV.row.rising hhb
              obtain ⟨mo, w3, c2, hrun, hset⟩ := ren_tail hV1 hx hb ham hfl
              refine ⟨rfl, mo, w3, c2, hrun, hset.mono ?_⟩
              rintro e w4 ⟨rfl, hL⟩
              refine ⟨rfl, _, rfl, ?_⟩
              rw [used_ren hV.row.rising hx hnb]
              exact Left.behind hb1 hL hV.within
            | true =>
              obtain ⟨y, hy, hyb, _⟩ := has_file hhb
              have hyu := used_ge hy
              refine (vdrop_some hV1 hy b hyb hbm (by omega) (by omega) (by omega)).mono ?_
              rintro e w2 ⟨rfl, hk2, _, hV2⟩
              have hx2 : x ∈ delP fs b := mem_del hV.row.rising hhb hx hab
              have hnb : ∀ z ∈ delP fs b, z.f.name ≠ b := fun z hz => mem_del_ne hV.row.rising hhb hz
              obtain ⟨mo, w3, c2, hrun, hset⟩ := ren_tail hV2 hx2 hb ham (Nat.lt_of_le_of_lt (delP_sub fs _).length_le hfl)
              refine ⟨rfl, mo, w3, c2, hrun, hset.mono ?_⟩
              rintro e w4 ⟨rfl, hL⟩
              refine ⟨rfl, layP (delP (delP fs b) x.f.name) (named x b), ?_, ?_⟩
              · obtain ⟨y2, hy2, hyb2, _⟩ := has_file hhb
                have hb3 : hasF (filesP (delP fs x.f.name)) (named x b).f.name = true := by
                  show hasF (filesP (delP fs x.f.name)) b = true
                  rw [← hyb2]
                  exact file_has (delP_rising hV.row.rising) (mem_del hV.row.rising hh hy2 (by rw [hyb2]; exact fun e => hab e.symm))
                rw [del_comm hV.row.rising hh hhb hab]
                exact congrArg filesP (lay_del (x := named x b) (delP_rising hV.row.rising) hb3)
              · rw [used_ren (delP_rising hV.row.rising) hx2 hnb]
                have e1 := used_del hV.row.rising hy
                rw [hyb] at e1
                have e2 : (usedM (filesP (delP fs b)) : Int) = (usedM (filesP fs) : Int) - (y.f.b.length : Int) := by omega
                rw [e2]
                exact Left.behind hb1 (Left.trans hV1.within hk2 hL) hV.within
          have FIN := Lib.hid fin
          obtain ⟨g, hg⟩ : ∃ g, x.g = g := ⟨_, rfl⟩
          rw [hg] at HC FIN
          obtain ⟨R, hR⟩ : ∃ R, filesP (layP (delP fs x.f.name) (named x b)) = R := ⟨_, rfl⟩
          rw [hR] at FIN ⊢
          obtain ⟨nm, hnm⟩ : ∃ nm, x.f.name = nm := ⟨_, rfl⟩
          rw [hnm] at HC FIN hab ⊢
          have hq : (nm.toList == b.toList) = false := by rw [name_beq]; exact decide_eq_false hab
          clear fin hV HV ha hb hT hvb hva ham hbm hu hh hx hnm hg hR hab hfl
          go_enter Tryd.func21, Tryd.ntmps21
          go_wp2_with fail
          refine HCB.out.mono ?_
          rintro e w1 ⟨rfl, hb1⟩
          go_wp2_with fail
          refine (HC.out w1 hb1).mono ?_
          rintro e w2 ⟨rfl, hb2⟩
          have HB := Lib.hid (hb1.trans (hb2.mono hb1.size))
          go_wp2_with fail
          refine (FIN.out w2 HB.out).mono ?_
          rintro e w3 ⟨rfl, mo, w4, c2, hrun, hset⟩
          have HS := Lib.hid hset
          clear hset
          go_wp2_with fail
          refine HS.out.mono ?_
          rintro e w5 ⟨rfl, fin⟩
          have FF := Lib.hid fin
          clear fin
          go_wp2
          go_ret
          exact ⟨rfl, FF.out⟩
end
end Go.Proofs.YtefjbefmmmllbaaDoor
