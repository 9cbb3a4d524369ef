/-
  2 texts in one file, each with its own heading.
-/
import Derived.Test.YtdndafdninnjfaaGreatMQLflJ
import Derived.Test.YtdndafdninnjfaaGreatMQFlrD
/-
  The landed flow answers as the bundle says.
-/
namespace Go.Proofs.YtdndafdninnjfaaGreat
open Go.RowKit

def LFWB (w : World) (g : Nat) (F : Nat → Prop) (D : FD) : Prop := ∃ p, p.g = g ∧ LW w p ∧ LI D p ∧ ∀ b, F b ↔ footL p b
theorem chx_of {w w' : World} {p : Wp} {g : Nat} {F : Nat → Prop} {D : FD} (hF : ∀ b, F b ↔ footL p b) (h : ∃ q, q.g = g ∧ ChL w w' p q ∧ LI D q) : ChX LFWB w w' g F D := by
  obtain ⟨q, hq, hc, hl⟩ := h
  exact ⟨footL q, ⟨q, hq, hc.1, hl, fun _ => Iff.rfl⟩, Fr.of hc.2.1 (fun b hb => (hF b).2 hb), fun b hb => (hc.2.2 b hb).imp_left (fun c => (hF b).2 c)⟩
theorem chr_of {w w' : World} {p : Wp} {g : Nat} {F : Nat → Prop} {D : FD} (hF : ∀ b, F b ↔ footL p b) (h : ∃ q, q.g = g ∧ footL q = footL p ∧ ChL w w' p q ∧ LI D q) : ChR LFWB w w' g F D := by
  obtain ⟨q, hq, hf, hc, hl⟩ := h
  exact ⟨footL q, ⟨q, hq, hc.1, hl, fun _ => Iff.rfl⟩, Fr.of hc.2.1 (fun b hb => (hF b).2 hb), fun b hb => (hF b).2 (hf ▸ hb)⟩
set_option maxHeartbeats 4000000 in
set_option maxRecDepth 100000 in
theorem lfwnew_any (w : World) : Calls Tryz.prog 6 #[] w fun e w' => ∃ g F, e = .returned (.pointer (some ⟨g, 0, none⟩)) ∧ LFWB w' g F FD0 ∧ (∀ b, F b → w.heap.size ≤ b) ∧ Below w.heap.size w w' := by
  have hmm := @run_makeMap Tryz.prog
  have HNw := Lib.hid (lfnew_any w)
  have HE : Hid (∀ (w1 : World) gf Ff, LFB w1 gf Ff [] → (∀ b, Ff b → w.heap.size ≤ b) → Below w.heap.size w w1 → ∃ F, LFWB ((((w1.alloc (.map #[] 0)).alloc (.map #[] 0)).alloc (.map #[] 0)).alloc (.cells #[.pointer (some ⟨gf, 0, none⟩), .map (some w1.heap.size), .map (some (w1.heap.size + 1)), .map (some (w1.heap.size + 2)), .int .i64 0] 67)) (w1.heap.size + 3) F FD0 ∧ (∀ b, F b → w.heap.size ≤ b) ∧ Below w.heap.size w ((((w1.alloc (.map #[] 0)).alloc (.map #[] 0)).alloc (.map #[] 0)).alloc (.cells #[.pointer (some ⟨gf, 0, none⟩), .map (some w1.heap.size), .map (some (w1.heap.size + 1)), .map (some (w1.heap.size + 2)), .int .i64 0] 67))) := Lib.hid (fun w1 gf Ff hf hn hb => by
    have s1 : (w1.alloc (.map #[] 0)).heap.size = w1.heap.size + 1 := by simp
    have s2 : ((w1.alloc (.map #[] 0)).alloc (.map #[] 0)).heap.size = w1.heap.size + 2 := by simp
    have s3 : (((w1.alloc (.map #[] 0)).alloc (.map #[] 0)).alloc (.map #[] 0)).heap.size = w1.heap.size + 3 := by simp
    have b1 : Below w1.heap.size w1 (w1.alloc (.map #[] 0)) := alloc_below _ _
    have b2 : Below (w1.alloc (.map #[] 0)).heap.size (w1.alloc (.map #[] 0)) ((w1.alloc (.map #[] 0)).alloc (.map #[] 0)) := alloc_below _ _
    have b3 : Below ((w1.alloc (.map #[] 0)).alloc (.map #[] 0)).heap.size ((w1.alloc (.map #[] 0)).alloc (.map #[] 0)) (((w1.alloc (.map #[] 0)).alloc (.map #[] 0)).alloc (.map #[] 0)) := alloc_below _ _
    obtain ⟨W3, hW3⟩ : ∃ W3, W3 = ((w1.alloc (.map #[] 0)).alloc (.map #[] 0)).alloc (.map #[] 0) := ⟨_, rfl⟩
    have m1 := ((MF.new bK w1).keep b2).keep b3
    have m2 := (MF.new sK (w1.alloc (.map #[] 0))).keep b3
    have m3 := MF.new xK ((w1.alloc (.map #[] 0)).alloc (.map #[] 0))
    rw [s1] at m2
    rw [s2] at m3
    have hb3 := bthen (bthen b1 b2) b3
    rw [← hW3] at m1 m2 m3 hb3 s3 ⊢
    have b4 : Below W3.heap.size W3 (W3.alloc (.cells #[.pointer (some ⟨gf, 0, none⟩), .map (some w1.heap.size), .map (some (w1.heap.size + 1)), .map (some (w1.heap.size + 2)), .int .i64 0] 67)) := alloc_below _ _
    have k := Blk.new W3 67 #[.pointer (some ⟨gf, 0, none⟩), .map (some w1.heap.size), .map (some (w1.heap.size + 1)), .map (some (w1.heap.size + 2)), .int .i64 0]
    rw [s3] at k
    have hfin := hf.inb
    have hsz := hb.size
    refine ⟨footL ⟨w1.heap.size + 3, gf, w1.heap.size, w1.heap.size + 1, w1.heap.size + 2, Ff, [], fun _ => none, fun _ => none, fun _ => none, 0⟩, ⟨⟨w1.heap.size + 3, gf, w1.heap.size, w1.heap.size + 1, w1.heap.size + 2, Ff, [], fun _ => none, fun _ => none, fun _ => none, 0⟩, rfl, ⟨k, (hf.keep hb3).keep b4, m1.keep b4, m2.keep b4, m3.keep b4, by show w1.heap.size + 3 ≠ w1.heap.size; omega, by show w1.heap.size + 3 ≠ w1.heap.size + 1; omega, by show w1.heap.size + 3 ≠ w1.heap.size + 2; omega, by show w1.heap.size ≠ w1.heap.size + 1; omega, by show w1.heap.size ≠ w1.heap.size + 2; omega, by show w1.heap.size + 1 ≠ w1.heap.size + 2; omega, fun c => by have := hfin _ c; have : w1.heap.size + 3 < w1.heap.size := this; omega, fun c => by have : w1.heap.size < w1.heap.size := hfin _ c; omega, fun c => by have : w1.heap.size + 1 < w1.heap.size := hfin _ c; omega, fun c => by have : w1.heap.size + 2 < w1.heap.size := hfin _ c; omega⟩, LI.zero rfl rfl rfl rfl rfl, fun _ => Iff.rfl⟩, ?_, bthen (bthen hb hb3) b4⟩
    rintro b (e | e | e | e | e)
    · have : b = w1.heap.size + 3 := e
      omega
    · have : b = w1.heap.size := e
      omega
    · have : b = w1.heap.size + 1 := e
      omega
    · have : b = w1.heap.size + 2 := e
      omega
    · exact hn b e)
  go_enter Tryz.func6, Tryz.ntmps6
  go_wp2_with fail
  refine HNw.out.mono ?_
  rintro e w1 ⟨gf, Ff, rfl, h1, h2, h3⟩
  have HE1 := Lib.hid (HE.out w1 gf Ff h1 h2 h3)
  clear h1 h2 h3 HE HNw
  go_wp2
  go_ret
  obtain ⟨F, k1, k2, k3⟩ := HE1.out
  exact ⟨_, F, rfl, k1, k2, k3⟩
/-! nil -/
theorem fwc_holds : FWC LFWB where
  keep_ := by
    rintro w w' g F D ⟨p, h1, h2, h3, h4⟩ he
    exact ⟨p, h1, h2.same (fun b hb => he b ((h4 b).2 hb)), h3, h4⟩
  inb := by
    rintro w g F D ⟨p, h1, h2, h3, h4⟩ b hb
    exact h2.inb b ((h4 b).1 hb)
  new := lfwnew_any
  put := by
    rintro w g F D a n cap l hD hDl ⟨p, rfl, h2, h3, h4⟩ hn hr hl
    exact (lfput_any hD h3 h2 hr hl hDl hn).mono fun _ _ q => ⟨q.1, chx_of h4 q.2⟩
  drop := by
    rintro w g F D a n cap xs hD hDl ⟨p, rfl, h2, h3, h4⟩ hn hr ha hx
    exact (lfdrop_any hD h3 h2 hr (ha.imp id (fun c ad e hf => c ad e ((h4 _).2 hf))) hx hn hDl).mono fun _ _ q => ⟨q.1, chx_of h4 q.2⟩
  run := by
    rintro w g F D hD hDl hst ⟨p, rfl, h2, h3, h4⟩
    exact (lfrun_any hD h3 h2 hDl hst).mono fun _ _ ⟨v, q1, q2, _, q3⟩ => ⟨v, q1, q2, chr_of h4 q3⟩
  state := by
    rintro w g F D x hD hDl ⟨p, rfl, h2, h3, h4⟩ hx
    refine (lfstate_any h2 h3.wf (fun y z e => h3.parR hD e) hx).mono ?_
    rintro e w' ⟨Y, rfl, hY, hb⟩
    obtain ⟨k1, k2⟩ := h3.state hD x
    exact ⟨Y, by rw [k1], hY.trans k2, hb⟩
  nodes := by
    rintro w g F D hD hDl ⟨p, rfl, h2, h3, h4⟩
    refine (lfnodes_any h2 (namesN D.L) (names_up hD.nod) (fun z => h3.names hD z)).mono ?_
    rintro e w' ⟨v, rfl, ho, hb⟩
    exact ⟨v, rfl, LRes.of9 ho (Nat.le_refl _), hb⟩
  steps := by
    rintro w g F D ⟨p, rfl, h2, h3, h4⟩
    refine (lfsteps_any h2).mono ?_
    rintro e w' ⟨rfl, rfl⟩
    exact ⟨by rw [h3.st], Below.refl _ _⟩
end Go.Proofs.YtdndafdninnjfaaGreat
/-
  The landed flow as an object in memory.
-/
namespace Go.Proofs.YtdndafdninnjfaaGreat
theorem lkb_holds : KB10 LFWB := ⟨fwc_holds.keep_, fwc_holds.inb, fun w g F D h => by
  obtain ⟨p, hp, h2, h3, h4⟩ := h
  exact fwc_holds.inb w g F D ⟨p, hp, h2, h3, h4⟩ g ((h4 g).2 (hp ▸ Or.inl rfl))⟩
/-- a run's list is no longer than its room -/
theorem lrc_holds : RunCap LFWB := by
  rintro w g F D hD hDl hst ⟨p, rfl, h2, h3, h4⟩
  exact (lfrun_any hD h3 h2 hDl hst).mono fun _ _ ⟨v, q1, q2, qc, q3⟩ => ⟨v, q1, q2, qc, chr_of h4 q3⟩
end Go.Proofs.YtdndafdninnjfaaGreat
