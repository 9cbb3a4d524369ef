/-
  The landed forest: what Set, Free, Drop and New answer, and what a nil one does.
-/
import Derived.Test.YtdndafdninnjfaaGreatMLfe
import Derived.Test.YtdndafdninnjfaaGreatMFoi
import Derived.Deep.LoopGhost
namespace Go.Proofs.YtdndafdninnjfaaGreat
open Go.RowKit

section
variable {w : World} {g : Nat} {L : FT} {F : Nat → Prop}
set_option maxHeartbeats 4000000 in
set_option maxRecDepth 100000 in
theorem lset_any (h : LFB w g F L) (hW : WF L) (hL : L.length ≤ 1000) {c p : Int} (hc : Rg c) (hp : Rg p) :
    Calls Tryz.prog 77 #[.pointer (some ⟨g, 0, none⟩), .int .i64 c, .int .i64 p] w fun e w' => e = .returned (.int .i64 (fsetE L c p)) ∧ ChF LFB w w' g F (setS9 L c p) := by
  have HSt : Hid (∀ u, Below w.heap.size w u → ChF LFB w u g F L) := Lib.hid (fun u q => ⟨F, h.keep q, ⟨q.os, q.tape, q.output, q.size, fun b hl _ => q.block b hl⟩, fun _ k => Or.inl k⟩)
  by_cases hcp : c = p
  · have HE : Hid (fsetE L c p = 8 ∧ setS9 L c p = L) := Lib.hid (by
      have e : fsetE L c p = 8 := by unfold fsetE; rw [if_pos (Or.inr hcp)]
      exact ⟨e, by unfold setS9; rw [e, if_neg (by omega)]⟩)
    rw [HE.out.1, HE.out.2]
    subst hcp
    clear h hW hc hp
    go_enter Tryz.func77, Tryz.ntmps77
    go_wp2
    go_ret
    exact ⟨rfl, HSt.out _ (Below.refl _ _)⟩
  · have hcp' : (c == p) = false := by simpa using hcp
    have HI : Hid (Calls Tryz.prog 96 #[.pointer (some ⟨g, 0, none⟩), .int .i64 c, .int .i64 p] w fun e w' => e = .returned (.bool (decide (c ∈ abv L p))) ∧ Below w.heap.size w w') := Lib.hid (by
      obtain ⟨gp, gc, bl, cp, h1, _⟩ := h
      exact lisAbove_any h1 hW hc hp)
    by_cases hab : c ∈ abv L p
    · have HE : Hid (fsetE L c p = 8 ∧ setS9 L c p = L) := Lib.hid (by
        have e : fsetE L c p = 8 := by unfold fsetE; rw [if_pos (Or.inl hab)]
        exact ⟨e, by unfold setS9; rw [e, if_neg (by omega)]⟩)
      rw [HE.out.1, HE.out.2]
      rw [decide_eq_true hab] at HI
      clear h hW hc hp hab
      go_enter Tryz.func77, Tryz.ntmps77
      go_wp2_with fail
      refine HI.out.mono ?_
      rintro e w1 ⟨rfl, b1⟩
      have HS := Lib.hid (HSt.out _ b1)
      clear b1 HI HSt
      go_wp2
      go_ret
      exact ⟨rfl, HS.out⟩
    · have HE : Hid (fsetE L c p = 0 ∧ setS9 L c p = setF L c p) := Lib.hid (by
        have e : fsetE L c p = 0 := by unfold fsetE; rw [if_neg (fun k => k.elim hab hcp)]
        exact ⟨e, by unfold setS9; rw [e, if_pos rfl]⟩)
      rw [HE.out.1, HE.out.2]
      rw [decide_eq_false hab] at HI
      have HLo : Hid (∀ u, Below w.heap.size w u → Calls Tryz.prog 64 #[.pointer (some ⟨g, 0, none⟩), .int .i64 c] u fun e w2 => ∃ fb, e = .returned (.bool fb) ∧ Calls Tryz.prog 97 #[.pointer (some ⟨g, 0, none⟩), .int .i64 c, .int .i64 p] w2 fun e w3 => e = .returned (.tuple #[]) ∧ ChF LFB w w3 g F (setF L c p)) := Lib.hid (fun u q => by
        refine (lloosen_any (h.keep q) hW hL hc).mono ?_
        rintro e w2 ⟨rfl, F1, k1, k2, k3⟩
        refine ⟨_, rfl, (lhang_any k1 (hW.free c) (Nat.le_trans (free_len L c) hL) hc hp (by rw [par_free, if_pos rfl])).mono ?_⟩
        rintro e w3 ⟨rfl, k4⟩
        refine ⟨rfl, ?_⟩
        have e1 : setF (freeF L c) c p = setF L c p := by unfold setF; rw [free_twice]
        rw [e1] at k4
        exact (ChF.join k2 k3 k4).of q)
      clear h hW hc hp hab HSt
      go_enter Tryz.func77, Tryz.ntmps77
      go_wp2_with fail
      refine HI.out.mono ?_
      rintro e w1 ⟨rfl, b1⟩
      have HL := Lib.hid (HLo.out _ b1)
      clear b1 HI HLo
      go_wp2_with fail
      refine HL.out.mono ?_
      rintro e w2 ⟨fb, rfl, hh⟩
      have HH := Lib.hid hh
      clear hh HL
      go_wp2_with fail
      refine HH.out.mono ?_
      rintro e w3 ⟨rfl, hch⟩
      have HC := Lib.hid hch
      clear hch HH
      go_wp2
      go_ret
      exact ⟨rfl, HC.out⟩
set_option maxHeartbeats 4000000 in
set_option maxRecDepth 100000 in
theorem lfree_any (h : LFB w g F L) (hW : WF L) (hL : L.length ≤ 1000) {a : Option Addr} {n cap : Nat} {xs : List Int} (hn : n ≤ 1000) (hr : Row w a n xs) (ha : Aw F a n) (hx : Rgs xs) :
    Calls Tryz.prog 42 #[.pointer (some ⟨g, 0, none⟩), .slice a n cap] w fun e w' => e = .returned (.int .i64 (frN L xs : Nat)) ∧ ChF LFB w w' g F (freeS L xs) := by
  have HSt : Hid (ChF LFB w w g F (freeS L (xs.take 0))) := Lib.hid ⟨F, h, fr_none w F, fun _ k => Or.inl k⟩
  have HRow : Hid (∀ u, Fr w u F → Row u a n xs) := Lib.hid (fun u q => row_frame hr ha q)
  have HLen := Lib.hid hr.1
  have HLo : Hid (∀ (u : World) (j : Nat) (z : Int), xs[j]? = some z → ChF LFB w u g F (freeS L (xs.take j)) → Calls Tryz.prog 64 #[.pointer (some ⟨g, 0, none⟩), .int .i64 z] u fun e w2 => e = .returned (.bool (parO (freeS L (xs.take j)) z).isSome) ∧ ChF LFB w w2 g F (freeS L (xs.take (j + 1)))) := Lib.hid (fun u j z hz q => by
    obtain ⟨F1, k1, k2, k3⟩ := q
    refine (lloosen_any k1 (WF.frees _ hW) (Nat.le_trans (frees_len _ _) hL) (hx z (List.mem_of_getElem? hz))).mono ?_
    rintro e w2 ⟨rfl, k4⟩
    refine ⟨rfl, ?_⟩
    rw [frees_snoc hz]
    exact ChF.join k2 k3 k4)
  clear h hW hr ha hx
  go_enter Tryz.func42, Tryz.ntmps42
  go_wp2
  go_loopw [5, 7, 12] (fun v5 _ i wr => ∃ j : Nat, j ≤ n ∧ i = .int .i64 j ∧ v5 = .int .i64 (frN L (xs.take j) : Nat) ∧ ChF LFB w wr g F (freeS L (xs.take j))) (fun _ _ i _ => n - (ivl i).toNat)
  case atStart => exact ⟨0, by omega, rfl, rfl, HSt.out⟩
  case round =>
    clear HSt
    obtain ⟨j, hj, rfl, rfl, hch⟩ := hrel
    have HCh := Lib.hid hch
    have HR : Hid (Row wr a n xs) := Lib.hid (by
      obtain ⟨_, _, q, _⟩ := hch
      exact HRow.out wr q)
    have hfl := frN_le (xs.take j) L
    rw [List.length_take] at hfl
    obtain ⟨cn, hcn⟩ : ∃ cn, cn = frN L (xs.take j) := ⟨_, rfl⟩
    rw [← hcn] at hfl ⊢
    have HCn := Lib.hid hcn
    clear hch hcn
    by_cases hlt : j < n
    · obtain ⟨b, off, z, rfl, hz, cz⟩ := row_at HR.out hlt
      have hbl := World.block_lt_of_cell? _ _ cz
      have HSn := Lib.hid (frN_snoc (L := L) hz)
      rw [← HCn.out] at HSn
      have HF := Lib.hid (HLo.out wr j z hz HCh.out)
      have j0 : (0 : Int) ≤ (j : Int) := by omega
      have j1 : (j : Int) < (n : Int) := by omega
      obtain ⟨hb, hhb⟩ : ∃ hb, hb = (parO (freeS L (xs.take j)) z).isSome := ⟨_, rfl⟩
      rw [← hhb] at HF HSn
      clear hz hhb
      go_wp2_with fail
      refine HF.out.mono ?_
      rintro e w2 ⟨rfl, hch⟩
      have HC2 := Lib.hid hch
      clear hch HF
      cases hb with
      | false =>
        go_wp2
        go_roundw
        case rel => exact ⟨j + 1, by omega, by go_num, by rw [HSn.out]; rfl, HC2.out⟩
        case measure => simp [ivl] <;> omega
      | true =>
        go_wp2
        go_roundw
        case rel => exact ⟨j + 1, by omega, by go_num, by rw [HSn.out]; go_num, HC2.out⟩
        case measure => simp [ivl] <;> omega
    · obtain rfl : j = n := by omega
      have e0 : xs.take j = xs := List.take_of_length_le (by rw [HLen.out]; exact Nat.le_refl _)
      rw [e0] at HCh HCn
      have j1 : ¬ (j : Int) < (j : Int) := by omega
      clear e0
      go_wp2
      go_ret
      exact ⟨by rw [HCn.out]; rfl, HCh.out⟩
set_option maxHeartbeats 2000000 in
set_option maxRecDepth 100000 in
theorem lfnew_any (w : World) :
    Calls Tryz.prog 17 #[] w fun e w' => ∃ g F, e = .returned (.pointer (some ⟨g, 0, none⟩)) ∧ LFB w' g F [] ∧ (∀ b, F b → w.heap.size ≤ b) ∧ Below w.heap.size w w' := by
  have hmm := @run_makeMap Tryz.prog
  have HE : Hid (∃ F, LFB (((w.alloc (.map #[] 0)).alloc (.map #[] 0)).alloc (.cells #[.map (some w.heap.size), .map (some (w.heap.size + 1))] 101)) (w.heap.size + 2) F [] ∧ (∀ b, F b → w.heap.size ≤ b) ∧ Below w.heap.size w (((w.alloc (.map #[] 0)).alloc (.map #[] 0)).alloc (.cells #[.map (some w.heap.size), .map (some (w.heap.size + 1))] 101))) := Lib.hid (by
    have s1 : (w.alloc (.map #[] 0)).heap.size = w.heap.size + 1 := by simp
    have s2 : ((w.alloc (.map #[] 0)).alloc (.map #[] 0)).heap.size = w.heap.size + 2 := by simp
    have b1 : Below w.heap.size w (w.alloc (.map #[] 0)) := alloc_below _ _
    have b2 : Below (w.alloc (.map #[] 0)).heap.size (w.alloc (.map #[] 0)) ((w.alloc (.map #[] 0)).alloc (.map #[] 0)) := alloc_below _ _
    have b3 : Below ((w.alloc (.map #[] 0)).alloc (.map #[] 0)).heap.size ((w.alloc (.map #[] 0)).alloc (.map #[] 0)) (((w.alloc (.map #[] 0)).alloc (.map #[] 0)).alloc (.cells #[.map (some w.heap.size), .map (some (w.heap.size + 1))] 101)) := alloc_below _ _
    have m1 := ((MF.new pK w).keep b2).keep b3
    have m2 := (MF.new cK (w.alloc (.map #[] 0))).keep b3
    rw [s1] at m2
    have k := Blk.new ((w.alloc (.map #[] 0)).alloc (.map #[] 0)) 101 #[.map (some w.heap.size), .map (some (w.heap.size + 1))]
    rw [s2] at k
    have hnil : ∀ x, chF [] x = [] := fun x => rfl
    refine ⟨lfoot9 [] (w.heap.size + 2) w.heap.size (w.heap.size + 1) (fun _ => 0), ⟨w.heap.size, w.heap.size + 1, fun _ => 0, fun _ => 0, ⟨k, m1, m2, fun x hx => absurd (hnil x) hx, fun x _ hx => absurd (hnil x) hx, by omega, by omega, by omega, fun x hx => absurd (hnil x) hx, fun p hp => by cases hp⟩, fun _ => Iff.rfl⟩, ?_, bthen (bthen b1 b2) b3⟩
    rintro b (e | e | e | ⟨x, hx, _⟩)
    · omega
    · omega
    · omega
    · exact absurd (hnil x) hx)
  go_enter Tryz.func17, Tryz.ntmps17
  go_wp2
  go_ret
  obtain ⟨F, h1, h2, h3⟩ := HE.out
  exact ⟨_, F, rfl, h1, h2, h3⟩
end
/-! nil -/
end Go.Proofs.YtdndafdninnjfaaGreat
