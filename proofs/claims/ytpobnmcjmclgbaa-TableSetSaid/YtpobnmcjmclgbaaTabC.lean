/-
  An act of the law of layer 7, and its live question, for any package that answers as the bundle says.
-/
import Derived.Test.YtpobnmcjmclgbaaTabB
namespace Go.Proofs.Ytpobnmcjmclgbaa
open Go.RowKit

theorem Fr.after {w w1 w2 : World} {L : Nat → Prop} (hb : Below w.heap.size w w1) (h : Fr w1 w2 L) : Fr w w2 L :=
  ⟨h.1.trans hb.os, h.2.1.trans hb.tape, h.2.2.1.trans hb.output, Nat.le_trans hb.size h.2.2.2.1, fun b hl hn => (h.2.2.2.2 b (Nat.lt_of_lt_of_le hl hb.size) hn).trans (hb.block b hl)⟩
theorem Fr.behind {w w1 w2 : World} {L : Nat → Prop} (h : Fr w w1 L) (hb : Below w1.heap.size w1 w2) : Fr w w2 L :=
  ⟨hb.os.trans h.1, hb.tape.trans h.2.1, hb.output.trans h.2.2.1, Nat.le_trans h.2.2.2.1 hb.size, fun b hl hn => (hb.block b (Nat.lt_of_lt_of_le hl h.2.2.2.1)).trans (h.2.2.2.2 b hl hn)⟩
theorem Fr.below0 {w w' : World} {L : Nat → Prop} (h : Fr w w' L) {B : Nat} (hL : ∀ b, L b → B ≤ b) (hs : B ≤ w.heap.size) : Below B w w' :=
  ⟨h.1, h.2.1, h.2.2.1, h.2.2.2.1, fun b hl => h.2.2.2.2 b (by omega) (fun c => by have := hL b c; omega)⟩
section
variable {TB : World → Nat → (Nat → Prop) → Int → TR → Prop}
theorem tb_keep (hT : TC TB) {w w' : World} {g : Nat} {L : Nat → Prop} {s : Int} {R : TR} (h : TB w g L s R) (hb : Below w.heap.size w w') : TB w' g L s R :=
  hT.1 w w' g L s R h (fun b hl => hb.block b (hT.2.1 w g L s R h b hl))

set_option maxHeartbeats 2000000 in
set_option maxRecDepth 100000 in
theorem does_any (hT : TC TB) (g : Nat) (L : Nat → Prop) (s : Int) (R : TR) (x : AT) (w : World) (hR : R.length ≤ 1000) (ht : TB w g L s R) (hk : 0 ≤ x.1 ∧ x.1 ≤ 255) :
    Calls Try.prog 7 #[.pointer (some ⟨g, 0, none⟩), .agg (acells x).toArray] w fun e w' => ∃ L', e = .returned (.tuple #[.int .i64 (actN s R (x.1 % 4) x.2.1 x.2.2.1 x.2.2.2), .int .i64 (actE s R (x.1 % 4) x.2.1 x.2.2.1 x.2.2.2)]) ∧ TB w' g L' s (actR s R (x.1 % 4) x.2.1 x.2.2.1 x.2.2.2) ∧ Fr w w' L ∧ ∀ b, L' b → L b ∨ w.heap.size ≤ b := by
  obtain ⟨k, id, P, row⟩ := x
  have hk1 : 0 ≤ k := hk.1
  have hk2 : k ≤ 255 := hk.2
  show Calls Try.prog 7 #[.pointer (some ⟨g, 0, none⟩), .agg (acells (k, id, P, row)).toArray] w fun e w' => ∃ L', e = .returned (.tuple #[.int .i64 (actN s R (k % 4) id P row), .int .i64 (actE s R (k % 4) id P row)]) ∧ TB w' g L' s (actR s R (k % 4) id P row) ∧ Fr w w' L ∧ ∀ b, L' b → L b ∨ w.heap.size ≤ b
  have HB1 := Lib.hid (alloc_below w (.cells (acells (k, id, P, row)).toArray 41))
  have HTB := Lib.hid (tb_keep hT ht HB1.out)
  have KA := Lib.hid (Blk.new w 41 (acells (k, id, P, row)).toArray)
  have ca0 : (w.alloc (.cells (acells (k, id, P, row)).toArray 41)).cell? ⟨w.heap.size, 0, none⟩ = some (.int .u8 k) := KA.out.cell 0
  have ca1 : (w.alloc (.cells (acells (k, id, P, row)).toArray 41)).cell? ⟨w.heap.size, 1, none⟩ = some (.int .i64 id) := KA.out.cell 1
  have ca26 : (w.alloc (.cells (acells (k, id, P, row)).toArray 41)).cell? ⟨w.heap.size, 26, none⟩ = some (.int .i64 row) := KA.out.cell 26
  have HRP : Hid ((w.alloc (.cells (acells (k, id, P, row)).toArray 41)).rangeAt w.heap.size 2 (pl P)) := Lib.hid (blk_range KA.out 2 24)
  obtain ⟨X, hX⟩ : ∃ X, X = acells (k, id, P, row) := ⟨_, rfl⟩
  rw [← hX] at HB1 HTB KA ca0 ca1 ca26 HRP
  rw [← hX]
  clear hX hk ht
  have h4 : k % 4 = 0 ∨ k % 4 = 1 ∨ k % 4 = 2 ∨ k % 4 = 3 := by omega
  rcases h4 with h4 | h4 | h4 | h4
  · rw [h4, show actN s R 0 id P row = tadN s R id P from rfl, show actE s R 0 id P row = tadE s R id P from rfl, show actR s R 0 id P row = tadR s R id P from rfl]
    go_enter Try.func7, Try.ntmps7
    go_wp2_with (refine wpList_load_mid rfl 39 (.tmp 33) rfl w.heap.size 2 rfl (pl P) _ HRP.out Try.underlying39 rfl (pl_size P) ?_)
    refine (hT.2.2.2.1 _ g L s R id P hR HTB.out).mono ?_
    rintro e w2 ⟨L', rfl, tb, fr, hl⟩
    have HX2 := Lib.hid (And.intro tb (And.intro (Fr.after HB1.out fr) (fun b h => (hl b h).imp_right (fun c => Nat.le_trans HB1.out.size c))))
    clear tb fr hl
    go_wp2
    go_ret2
    exact ⟨L', rfl, HX2.out.1, HX2.out.2.1, HX2.out.2.2⟩
  · rw [h4, show actN s R 1 id P row = tadN s R id P from rfl, show actE s R 1 id P row = tadE s R id P from rfl, show actR s R 1 id P row = tadR s R id P from rfl]
    go_enter Try.func7, Try.ntmps7
    go_wp2_with (refine wpList_load_mid rfl 39 (.tmp 33) rfl w.heap.size 2 rfl (pl P) _ HRP.out Try.underlying39 rfl (pl_size P) ?_)
    refine (hT.2.2.2.1 _ g L s R id P hR HTB.out).mono ?_
    rintro e w2 ⟨L', rfl, tb, fr, hl⟩
    have HX2 := Lib.hid (And.intro tb (And.intro (Fr.after HB1.out fr) (fun b h => (hl b h).imp_right (fun c => Nat.le_trans HB1.out.size c))))
    clear tb fr hl
    go_wp2
    go_ret2
    exact ⟨L', rfl, HX2.out.1, HX2.out.2.1, HX2.out.2.2⟩
  · rw [h4, show actN s R 2 id P row = 0 from rfl, show actE s R 2 id P row = tpuE s R row P from rfl, show actR s R 2 id P row = tpuR s R row P from rfl]
    go_enter Try.func7, Try.ntmps7
    go_wp2_with (refine wpList_load_mid rfl 39 (.tmp 16) rfl w.heap.size 2 rfl (pl P) _ HRP.out Try.underlying39 rfl (pl_size P) ?_)
    refine (hT.2.2.2.2.1 _ g L s R row P hR HTB.out).mono ?_
    rintro e w2 ⟨L', rfl, tb, fr, hl⟩
    have HX2 := Lib.hid (And.intro tb (And.intro (Fr.after HB1.out fr) (fun b h => (hl b h).imp_right (fun c => Nat.le_trans HB1.out.size c))))
    clear tb fr hl
    go_wp2
    go_ret2
    exact ⟨L', rfl, HX2.out.1, HX2.out.2.1, HX2.out.2.2⟩
  · rw [h4, show actN s R 3 id P row = tcuV R row from rfl, show actE s R 3 id P row = tcuE R row from rfl, show actR s R 3 id P row = tcuR R row from rfl]
    go_enter Try.func7, Try.ntmps7
    go_wp2_with (fail)
    refine (hT.2.2.2.2.2.1 _ g L s R row hR HTB.out).mono ?_
    rintro e w2 ⟨L', rfl, tb, fr, hl⟩
    have HX2 := Lib.hid (And.intro tb (And.intro (Fr.after HB1.out fr) (fun b h => (hl b h).imp_right (fun c => Nat.le_trans HB1.out.size c))))
    clear tb fr hl
    go_wp2
    go_ret2
    exact ⟨L', rfl, HX2.out.1, HX2.out.2.1, HX2.out.2.2⟩
end
end Go.Proofs.Ytpobnmcjmclgbaa
