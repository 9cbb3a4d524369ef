/-
  4 texts in one file, each with its own heading.
-/
import Derived.Test.YtkondkajpmafkaaGreatMT33
import Derived.Deep.LoopGhost
import Derived.Test.YtkondkajpmafkaaGreatMT31
/-
  The landed forest: what Set, Free, Drop and New answer, and what a nil one does.
-/
namespace Go.Proofs.YtkondkajpmafkaaGreat
open Go.RowKit

section
variable {w : World} {g : Nat} {L : FT} {F : Nat → Prop}
set_option maxHeartbeats 4000000 in
set_option maxRecDepth 100000 in
theorem lset_any (h : LFB w g F L) (hW : WF L) (hL : L.length ≤ 1000) {c p : Int} (hc : Rg c) (hp : Rg p) :
    Calls Tryz.prog 58 #[.pointer (some ⟨g, 0, none⟩), .int .i64 c, .int .i64 p] w fun e w' => e = .returned (.int .i64 (fsetE L c p)) ∧ ChF LFB w w' g F (setS9 L c p) := by
  have HSt : Hid (∀ u, Below w.heap.size w u → ChF LFB w u g F L) := Lib.hid (fun u q => ⟨F, h.keep q, ⟨q.os, q.tape, q.output, q.size, fun b hl _ => q.block b hl⟩, fun _ k => Or.inl k⟩)
  by_cases hcp : c = p
  · have HE : Hid (fsetE L c p = 8 ∧ setS9 L c p = L) := Lib.hid (by
      have e : fsetE L c p = 8 := by unfold fsetE; rw [if_pos (Or.inr hcp)]
      exact ⟨e, by unfold setS9; rw [e, if_neg (by omega)]⟩)
    rw [HE.out.1, HE.out.2]
    subst hcp
    clear h hW hc hp
    go_enter Tryz.func58, Tryz.ntmps58
    go_wp2
    go_ret
    exact ⟨rfl, HSt.out _ (Below.refl _ _)⟩
  · have hcp' : (c == p) = false := by simpa using hcp
    have HI : Hid (Calls Tryz.prog 94 #[.pointer (some ⟨g, 0, none⟩), .int .i64 c, .int .i64 p] w fun e w' => e = .returned (.bool (decide (c ∈ abv L p))) ∧ Below w.heap.size w w') := Lib.hid (by
      obtain ⟨gp, gc, bl, cp, h1, _⟩ := h
      exact lisAbove_any h1 hW hc hp)
    by_cases hab : c ∈ abv L p
    · have HE : Hid (fsetE L c p = 8 ∧ setS9 L c p = L) := Lib.hid (by
        have e : fsetE L c p = 8 := by unfold fsetE; rw [if_pos (Or.inl hab)]
        exact ⟨e, by unfold setS9; rw [e, if_neg (by omega)]⟩)
      rw [HE.out.1, HE.out.2]
      rw [decide_eq_true hab] at HI
      clear h hW hc hp hab
      go_enter Tryz.func58, Tryz.ntmps58
      go_wp2_with fail
      refine HI.out.mono ?_
      rintro e w1 ⟨rfl, b1⟩
      have HS := Lib.hid (HSt.out _ b1)
      clear b1 HI HSt
      go_wp2
      go_ret
      exact ⟨rfl, HS.out⟩
    · have HE : Hid (fsetE L c p = 0 ∧ setS9 L c p = setF L c p) := Lib.hid (by
        have e : fsetE L c p = 0 := by unfold fsetE; rw [if_neg (fun k => k.elim hab hcp)]
        exact ⟨e, by unfold setS9; rw [e, if_pos rfl]⟩)
      rw [HE.out.1, HE.out.2]
      rw [decide_eq_false hab] at HI
      have HLo : Hid (∀ u, Below w.heap.size w u → Calls Tryz.prog 95 #[.pointer (some ⟨g, 0, none⟩), .int .i64 c] u fun e w2 => ∃ fb, e = .returned (.bool fb) ∧ Calls Tryz.prog 96 #[.pointer (some ⟨g, 0, none⟩), .int .i64 c, .int .i64 p] w2 fun e w3 => e = .returned (.tuple #[]) ∧ ChF LFB w w3 g F (setF L c p)) := Lib.hid (fun u q => by
        refine (lloosen_any (h.keep q) hW hL hc).mono ?_
        rintro e w2 ⟨rfl, F1, k1, k2, k3⟩
        refine ⟨_, rfl, (lhang_any k1 (hW.free c) (Nat.le_trans (free_len L c) hL) hc hp (by rw [par_free, if_pos rfl])).mono ?_⟩
        rintro e w3 ⟨rfl, k4⟩
        refine ⟨rfl, ?_⟩
        have e1 : setF (freeF L c) c p = setF L c p := by unfold setF; rw [free_twice]
        rw [e1] at k4
        exact (ChF.join k2 k3 k4).of q)
      clear h hW hc hp hab HSt
      go_enter Tryz.func58, Tryz.ntmps58
      go_wp2_with fail
      refine HI.out.mono ?_
      rintro e w1 ⟨rfl, b1⟩
      have HL := Lib.hid (HLo.out _ b1)
      clear b1 HI HLo
      go_wp2_with fail
      refine HL.out.mono ?_
      rintro e w2 ⟨fb, rfl, hh⟩
      have HH := Lib.hid hh
      clear hh HL
      go_wp2_with fail
      refine HH.out.mono ?_
      rintro e w3 ⟨rfl, hch⟩
      have HC := Lib.hid hch
      clear hch HH
      go_wp2
      go_ret
      exact ⟨rfl, HC.out⟩
set_option maxHeartbeats 4000000 in
set_option maxRecDepth 100000 in
theorem lfree_any (h : LFB w g F L) (hW : WF L) (hL : L.length ≤ 1000) {a : Option Addr} {n cap : Nat} {xs : List Int} (hn : n ≤ 1000) (hr : Row w a n xs) (ha : Aw F a n) (hx : Rgs xs) :
    Calls Tryz.prog 65 #[.pointer (some ⟨g, 0, none⟩), .slice a n cap] w fun e w' => e = .returned (.int .i64 (frN L xs : Nat)) ∧ ChF LFB w w' g F (freeS L xs) := by
  have HSt : Hid (ChF LFB w w g F (freeS L (xs.take 0))) := Lib.hid ⟨F, h, fr_none w F, fun _ k => Or.inl k⟩
  have HRow : Hid (∀ u, Fr w u F → Row u a n xs) := Lib.hid (fun u q => row_frame hr ha q)
  have HLen := Lib.hid hr.1
  have HLo : Hid (∀ (u : World) (j : Nat) (z : Int), xs[j]? = some z → ChF LFB w u g F (freeS L (xs.take j)) → Calls Tryz.prog 95 #[.pointer (some ⟨g, 0, none⟩), .int .i64 z] u fun e w2 => e = .returned (.bool (parO (freeS L (xs.take j)) z).isSome) ∧ ChF LFB w w2 g F (freeS L (xs.take (j + 1)))) := Lib.hid (fun u j z hz q => by
    obtain ⟨F1, k1, k2, k3⟩ := q
    refine (lloosen_any k1 (WF.frees _ hW) (Nat.le_trans (frees_len _ _) hL) (hx z (List.mem_of_getElem? hz))).mono ?_
    rintro e w2 ⟨rfl, k4⟩
    refine ⟨rfl, ?_⟩
    rw [frees_snoc hz]
    exact ChF.join k2 k3 k4)
  clear h hW hr ha hx
  go_enter Tryz.func65, Tryz.ntmps65
  go_wp2
  go_loopw [5, 7, 12] (fun v5 _ i wr => ∃ j : Nat, j ≤ n ∧ i = .int .i64 j ∧ v5 = .int .i64 (frN L (xs.take j) : Nat) ∧ ChF LFB w wr g F (freeS L (xs.take j))) (fun _ _ i _ => n - (ivl i).toNat)
  case atStart => exact ⟨0, by omega, rfl, rfl, HSt.out⟩
  case round =>
    clear HSt
    obtain ⟨j, hj, rfl, rfl, hch⟩ := hrel
    have HCh := Lib.hid hch
    have HR : Hid (Row wr a n xs) := Lib.hid (by
      obtain ⟨_, _, q, _⟩ := hch
      exact HRow.out wr q)
    have hfl := frN_le (xs.take j) L
    rw [List.length_take] at hfl
    obtain ⟨cn, hcn⟩ : ∃ cn, cn = frN L (xs.take j) := ⟨_, rfl⟩
    rw [← hcn] at hfl ⊢
    have HCn := Lib.hid hcn
    clear hch hcn
    by_cases hlt : j < n
    · obtain ⟨b, off, z, rfl, hz, cz⟩ := row_at HR.out hlt
      have hbl := World.block_lt_of_cell? _ _ cz
      have HSn := Lib.hid (frN_snoc (L := L) hz)
      rw [← HCn.out] at HSn
      have HF := Lib.hid (HLo.out wr j z hz HCh.out)
      have j0 : (0 : Int) ≤ (j : Int) := by omega
      have j1 : (j : Int) < (n : Int) := by omega
      obtain ⟨hb, hhb⟩ : ∃ hb, hb = (parO (freeS L (xs.take j)) z).isSome := ⟨_, rfl⟩
      rw [← hhb] at HF HSn
      clear hz hhb
      go_wp2_with fail
      refine HF.out.mono ?_
      rintro e w2 ⟨rfl, hch⟩
      have HC2 := Lib.hid hch
      clear hch HF
      cases hb with
      | false =>
        go_wp2
        go_roundw
        case rel => exact ⟨j + 1, by omega, by go_num, by rw [HSn.out]; rfl, HC2.out⟩
        case measure => simp [ivl] <;> omega
      | true =>
        go_wp2
        go_roundw
        case rel => exact ⟨j + 1, by omega, by go_num, by rw [HSn.out]; go_num, HC2.out⟩
        case measure => simp [ivl] <;> omega
    · obtain rfl : j = n := by omega
      have e0 : xs.take j = xs := List.take_of_length_le (by rw [HLen.out]; exact Nat.le_refl _)
      rw [e0] at HCh HCn
      have j1 : ¬ (j : Int) < (j : Int) := by omega
      clear e0
      go_wp2
      go_ret
      exact ⟨by rw [HCn.out]; rfl, HCh.out⟩
def dpm (L : FT) (C : List Int) (j : Nat) (z : Int) : Option Int := if z ∈ C.take j then none else parO L z
theorem dpm_step {L : FT} {C : List Int} {j : Nat} {y : Int} (h : C[j]? = some y) (z : Int) : dpm L C (j + 1) z = upm (dpm L C j) y none z := by
  unfold dpm upm
  rw [List.take_add_one, h]
  by_cases q : z = y
  · rw [if_pos q, if_pos (by rw [q]; simp)]
  · rw [if_neg q]
    show _ = if z ∈ C.take j then none else parO L z
    by_cases k : z ∈ C.take j
    · rw [if_pos k, if_pos (List.mem_append_left _ k)]
    · rw [if_neg k, if_neg (fun m => (List.mem_append.1 m).elim k (fun m => q (by simpa using m)))]
set_option maxHeartbeats 4000000 in
set_option maxRecDepth 100000 in
theorem ldrop_any (h : LFB w g F L) (hW : WF L) (hL : L.length ≤ 1000) {x : Int} (hx : Rg x) :
    Calls Tryz.prog 61 #[.pointer (some ⟨g, 0, none⟩), .int .i64 x] w fun e w' => ∃ v, e = .returned v ∧ LDr F w w' (chF L x) v ∧ ChF LFB w w' g F (dropF L x) := by
  have HLo := Lib.hid (lloosen_any h hW hL hx)
  have HW := Lib.hid hW
  obtain ⟨C, hC⟩ : ∃ C, C = chF L x := ⟨_, rfl⟩
  obtain ⟨L2, hL2⟩ : ∃ L2, L2 = dropF L x := ⟨_, rfl⟩
  rw [← hC, ← hL2]
  have HC9 := Lib.hid hC
  have HL9 := Lib.hid hL2
  clear h hW hC hL2
  go_enter Tryz.func61, Tryz.ntmps61
  go_wp2_with fail
  refine HLo.out.mono ?_
  rintro e w1 ⟨rfl, F1, ⟨gp, gc, bl, cp, h1, hF1⟩, hfr1, hsub1⟩
  clear HLo
  have c1 := h1.c1
  have hg := h1.blk.lt
  have hsame := ch_free_same HW.out x
  obtain ⟨a, cap, hv, hr⟩ := h1.rowOf x
  have hl : (Instr.lookup 125 (.map (some gc)) (.int .i64 x) false).run Tryz.prog w1 = .ok (cV (chO (freeF L x) bl cp x)) w1 := h1.chd.get hx
  obtain ⟨w2, hd2, hm2, hg2⟩ := h1.chd.del hx
  replace hd2 : ∀ ty, (Builtin.delete_ #[125, 31] ty #[.map (some gc), .int .i64 x]).run Tryz.prog w1 = .ok (.tuple #[]) w2 := hd2
  have hfam : chF (freeF L x) x ≠ [] → a = some ⟨bl x, 0, none⟩ := fun q => by
    unfold chO at hv
    rw [if_neg q] at hv
    injection hv with e _ _
    exact e.symm
  rw [hsame] at hv hr hfam
  have HRow : Hid (∀ u, w2.grownBy u (some gp) → Row u a (chF L x).length (chF L x)) := Lib.hid (fun u q => by
    by_cases e : chF L x = []
    · refine ⟨rfl, by rw [e]; simp, Or.inl (by rw [e]; rfl)⟩
    · have e2 := hfam e
      have hne : chF (freeF L x) x ≠ [] := by rw [hsame]; exact e
      have ho := h1.off x hne
      have hlt := ((h1.row x hne).lt _ rfl).2
      have hk1 := grown_at hg2 hlt ho.2.2
      have hk2 := grown_at q (Nat.lt_of_lt_of_le hlt hg2.size) ho.2.1
      refine ⟨hr.1, hr.2.1, hr.2.2.imp id (fun ⟨b, off, e3, hc⟩ => ⟨b, off, e3, fun i hi => ?_⟩)⟩
      rw [e2] at e3
      injection e3 with e3
      injection e3 with e4 e5 _
      rw [← hc i hi]
      simp only [World.cell?]
      rw [← e4, hk2, hk1])
  have hpar2 : MF pK w2 gp (dpm (freeF L x) (chF L x) 0) := (h1.par.same (grown_at hg2 h1.par.lt h1.ne3)).eq (fun z _ => by unfold dpm; rw [List.take_zero, if_neg (by simp)])
  have HPar := Lib.hid hpar2
  have HDel : Hid (∀ (u : World) (j : Nat) (y : Int), (chF L x)[j]? = some y → MF pK u gp (dpm (freeF L x) (chF L x) j) → ∃ u', (∀ ty, (Builtin.delete_ #[124, 31] ty #[.map (some gp), .int .i64 y]).run Tryz.prog u = .ok (.tuple #[]) u') ∧ MF pK u' gp (dpm (freeF L x) (chF L x) (j + 1)) ∧ u.grownBy u' (some gp)) := Lib.hid (fun u j y hy hm => by
    have hyr : Rg y := ch_rng (free_nod HW.out.1 x) h1.rng (x := x) (by rw [hsame]; exact List.mem_of_getElem? hy)
    obtain ⟨u', k1, k2, k3⟩ := hm.del hyr
    exact ⟨u', k1, k2.eq (fun z _ => dpm_step hy z), k3⟩)
  have HCell : Hid (∀ u, w2.grownBy u (some gp) → u.cell? ⟨g, 0, none⟩ = some (.map (some gp)) ∧ g < u.heap.size) := Lib.hid (fun u q => by
    have k2 : Blk w2 g 127 #[.map (some gp), .map (some gc)] := h1.blk.same (grown_at hg2 hg h1.ne2)
    have k3 := k2.same (grown_at q k2.lt h1.ne1)
    exact ⟨k3.cell 0, k3.lt⟩)
  have HEnd : Hid (∀ u, w2.grownBy u (some gp) → MF pK u gp (dpm (freeF L x) (chF L x) (chF L x).length) → LDr F w u (chF L x) (.slice a (chF L x).length cap) ∧ ChF LFB w u g F (dropF L x)) := Lib.hid (fun u q hm => by
    constructor
    · refine ⟨a, cap, rfl, HRow.out u q, ?_⟩
      by_cases e : chF L x = []
      · exact Or.inl (by rw [e]; rfl)
      · refine Or.inr (fun ad e2 => ?_)
        rw [hfam e] at e2
        injection e2 with e2
        rw [← e2]
        exact hsub1 _ ((hF1 _).2 (Or.inr (Or.inr (Or.inr ⟨x, by rw [hsame]; exact e, rfl⟩))))
    · refine ChF.join hfr1 hsub1 (h1.step (L' := dropF L x) (bl' := bl) (cp' := cp) (p := x) hF1 (fr_grown (fr_grown (fr_none w1 _) hg2 (fun b e => Or.inl (Or.inr (Or.inl (by injection e with e; exact e.symm))))) q (fun b e => Or.inl (Or.inl (by injection e with e; exact e.symm)))) ?_ ?_ (fun k => absurd (ch_drop_self HW.out x) k) (fun k => absurd (ch_drop_self HW.out x) k) (fun y hy => ⟨ch_drop_other HW.out hy, rfl, rfl⟩) (frees_rng _ h1.rng)).2
      · refine hm.eq (fun z _ => ?_)
        unfold dropF dpm
        rw [par_frees, List.take_length]
      · refine MF.eq (hm2.same (grown_at q hm2.lt (fun e => h1.ne3 e.symm))) (fun z _ => ?_)
        unfold upm chO
        by_cases k : z = x
        · rw [if_pos k, k, ch_drop_self HW.out x, if_pos rfl]
        · rw [if_neg k, ch_drop_other HW.out k])
  rw [hv] at hl
  have hcl := chF_len L x
  obtain ⟨n, hn⟩ : ∃ n, n = C.length := ⟨_, rfl⟩
  obtain ⟨L1, hL1⟩ : ∃ L1, L1 = freeF L x := ⟨_, rfl⟩
  rw [← HC9.out] at hl HRow HPar HDel HEnd hcl
  rw [← hn] at hl HRow HEnd hcl
  rw [← hL1] at HPar HDel HEnd
  rw [← HL9.out] at HEnd
  clear h1 hF1 hfr1 hsub1 hr hfam hm2 hg2 hpar2 hsame hL1 hn hx hv HW HC9 HL9
  go_wp2_with (at_builtin; refine wpList_del9 rfl (.tmp 22) (.tmp 23) 125 31 rfl _ _ rfl rfl (hd2 _) ?_)
  clear hl hd2 c1 hg
  go_loopw [7, 26] (fun _ i wr => ∃ j : Nat, j ≤ n ∧ i = .int .i64 j ∧ MF pK wr gp (dpm L1 C j) ∧ w2.grownBy wr (some gp)) (fun _ i _ => n - (ivl i).toNat)
  case atStart => exact ⟨0, by omega, rfl, HPar.out, ⟨rfl, rfl, rfl, Nat.le_refl _, fun _ _ _ => rfl⟩⟩
  case round =>
    clear HPar
    obtain ⟨j, hj, rfl, hm, hgr⟩ := hrel
    have HM := Lib.hid hm
    have HG := Lib.hid hgr
    obtain ⟨c0, hg⟩ := HCell.out wr hgr
    have HR := Lib.hid (HRow.out wr hgr)
    clear hm hgr
    by_cases hlt : j < n
    · obtain ⟨b, off, y, rfl, hy, cy⟩ := row_at HR.out hlt
      have hbl := World.block_lt_of_cell? _ _ cy
      obtain ⟨w3, hd3, hm3, hg3⟩ := HDel.out wr j y hy HM.out
      have K3 := Lib.hid (And.intro hm3 (grown_trans HG.out hg3))
      have j0 : (0 : Int) ≤ (j : Int) := by omega
      have j1 : (j : Int) < (n : Int) := by omega
      clear hy hm3 hg3
      go_wp2_with (at_builtin; refine wpList_del9 rfl (.tmp 33) (.tmp 34) 124 31 rfl _ _ rfl rfl (hd3 _) ?_)
      go_roundw
      case rel => exact ⟨j + 1, by omega, by go_num, K3.out.1, K3.out.2⟩
      case measure => simp [ivl] <;> omega
    · obtain rfl : j = n := by omega
      have HE := Lib.hid (HEnd.out wr HG.out (by have := HM.out; exact this))
      have j1 : ¬ (j : Int) < (j : Int) := by omega
      go_wp2
      go_ret
      exact ⟨_, rfl, HE.out⟩
set_option maxHeartbeats 2000000 in
set_option maxRecDepth 100000 in
theorem lfnew_any (w : World) :
    Calls Tryz.prog 27 #[] w fun e w' => ∃ g F, e = .returned (.pointer (some ⟨g, 0, none⟩)) ∧ LFB w' g F [] ∧ (∀ b, F b → w.heap.size ≤ b) ∧ Below w.heap.size w w' := by
  have hmm := @run_makeMap Tryz.prog
  have HE : Hid (∃ F, LFB (((w.alloc (.map #[] 0)).alloc (.map #[] 0)).alloc (.cells #[.map (some w.heap.size), .map (some (w.heap.size + 1))] 127)) (w.heap.size + 2) F [] ∧ (∀ b, F b → w.heap.size ≤ b) ∧ Below w.heap.size w (((w.alloc (.map #[] 0)).alloc (.map #[] 0)).alloc (.cells #[.map (some w.heap.size), .map (some (w.heap.size + 1))] 127))) := Lib.hid (by
    have s1 : (w.alloc (.map #[] 0)).heap.size = w.heap.size + 1 := by simp
    have s2 : ((w.alloc (.map #[] 0)).alloc (.map #[] 0)).heap.size = w.heap.size + 2 := by simp
    have b1 : Below w.heap.size w (w.alloc (.map #[] 0)) := alloc_below _ _
    have b2 : Below (w.alloc (.map #[] 0)).heap.size (w.alloc (.map #[] 0)) ((w.alloc (.map #[] 0)).alloc (.map #[] 0)) := alloc_below _ _
    have b3 : Below ((w.alloc (.map #[] 0)).alloc (.map #[] 0)).heap.size ((w.alloc (.map #[] 0)).alloc (.map #[] 0)) (((w.alloc (.map #[] 0)).alloc (.map #[] 0)).alloc (.cells #[.map (some w.heap.size), .map (some (w.heap.size + 1))] 127)) := alloc_below _ _
    have m1 := ((MF.new pK w).keep b2).keep b3
    have m2 := (MF.new cK (w.alloc (.map #[] 0))).keep b3
    rw [s1] at m2
    have k := Blk.new ((w.alloc (.map #[] 0)).alloc (.map #[] 0)) 127 #[.map (some w.heap.size), .map (some (w.heap.size + 1))]
    rw [s2] at k
    have hnil : ∀ x, chF [] x = [] := fun x => rfl
    refine ⟨lfoot9 [] (w.heap.size + 2) w.heap.size (w.heap.size + 1) (fun _ => 0), ⟨w.heap.size, w.heap.size + 1, fun _ => 0, fun _ => 0, ⟨k, m1, m2, fun x hx => absurd (hnil x) hx, fun x _ hx => absurd (hnil x) hx, by omega, by omega, by omega, fun x hx => absurd (hnil x) hx, fun p hp => by cases hp⟩, fun _ => Iff.rfl⟩, ?_, bthen (bthen b1 b2) b3⟩
    rintro b (e | e | e | ⟨x, hx, _⟩)
    · omega
    · omega
    · omega
    · exact absurd (hnil x) hx)
  go_enter Tryz.func27, Tryz.ntmps27
  go_wp2
  go_ret
  obtain ⟨F, h1, h2, h3⟩ := HE.out
  exact ⟨_, F, rfl, h1, h2, h3⟩
end
section
variable {FB : World → Nat → (Nat → Prop) → FT → Prop}
end
section
variable {w : World} {g gp gc : Nat} {L : FT} {bl cp : Int → Nat}
end
def fateL (L : List Nd) : List Int → Int → Option Stt × Int
  | [], x => match elF Nd.id L x with
    | none => (none, 0)
    | some n => (some ⟨n.id, n.pl, !n.hid⟩, 0)
  | y :: l, x => match elF Nd.id L x with
    | none => (none, 0)
    | some n => match (fateL L l y).1 with
      | none => (none, 0)
      | some u => if 16 < l.length + 2 then (none, 7) else if prodE2 u.wo n.pl = 0 then (some ⟨n.id, prodM u.wo n.pl, u.sh && !n.hid⟩, 0) else (none, prodE2 u.wo n.pl)
def fate (L : List Nd) (x : Int) : Option Stt × Int := fateL L (abv (treesN L) x) x
section
variable {L : List Nd}
end
end Go.Proofs.YtkondkajpmafkaaGreat
