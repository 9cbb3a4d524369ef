/-
  The live question of layer 7, for any package that answers as the bundle says.
-/
import Derived.Test.YtpobnmcjmclgbaaTabC
import Derived.Deep.Cut
import Derived.Deep.CutRange
namespace Go.Proofs.Ytpobnmcjmclgbaa
open Go.RowKit

def p71 : PT := (8, zI, 0, zI, 0, 0, false, 1)
def p72 : PT := (8, zI, 0, zI, 0, 0, false, 2)
def p73 : PT := (8, zI, 0, zI, 0, 0, false, 0)
theorem laid24 (w : World) (P : PT) : Below w.heap.size w ((w.alloc (.cells (pl zT).toArray 39)).setCells w.heap.size 0 (pl P)) ∧ Blk ((w.alloc (.cells (pl zT).toArray 39)).setCells w.heap.size 0 (pl P)) w.heap.size 39 (pl P).toArray :=
  ⟨below_setCells (pl P) (alloc_below _ _) (Nat.le_refl _), blk_store (Blk.new w 39 (pl zT).toArray) rfl⟩
theorem there24 (w : World) (P : PT) : (w.alloc (.cells (pl zT).toArray 39)).there w.heap.size 0 (pl P).toArray.size := blk_there (Blk.new w 39 (pl zT).toArray) (by rw [List.size_toArray]; exact Nat.le_refl 24)
section
variable {TB : World → Nat → (Nat → Prop) → Int → TR → Prop}
set_option maxHeartbeats 4000000 in
set_option maxRecDepth 100000 in
theorem alive7 (hT : TC TB) (w : World) : Calls Try.prog 5 #[] w fun e w' => e = .returned (.bool true) ∧ Below w.heap.size w w' := by
  have A1 : Hid (∀ w g L, TB w g L 8 [] → Calls Try.prog 12 #[.pointer (some ⟨g, 0, none⟩), .int .i64 7, .agg #[.int .i64 8, .int .i64 0, .int .i64 0, .int .i64 0, .int .i64 0, .int .i64 0, .int .i64 0, .int .i64 0, .int .i64 0, .int .i64 0, .int .i64 0, .int .i64 0, .int .i64 0, .int .i64 0, .int .i64 0, .int .i64 0, .int .i64 0, .int .i64 0, .int .i64 0, .int .i64 0, .int .i64 0, .int .i64 0, .bool false, .int .i64 1]] w fun e w' => ∃ L', e = .returned (.tuple #[.int .i64 0, .int .i64 0]) ∧ TB w' g L' 8 [(7, p71)] ∧ Fr w w' L ∧ ∀ b, L' b → L b ∨ w.heap.size ≤ b) := Lib.hid (fun w g L h => by
    have := hT.2.2.2.1 w g L 8 [] 7 p71 (by decide) h
    rw [show tadN 8 [] 7 p71 = 0 by kernel_rfl, show tadE 8 [] 7 p71 = 0 by kernel_rfl, show tadR 8 [] 7 p71 = [(7, p71)] by rfl] at this
    exact this)
  have A2 : Hid (∀ w g L, TB w g L 8 [(7, p71)] → Calls Try.prog 12 #[.pointer (some ⟨g, 0, none⟩), .int .i64 9, .agg #[.int .i64 8, .int .i64 0, .int .i64 0, .int .i64 0, .int .i64 0, .int .i64 0, .int .i64 0, .int .i64 0, .int .i64 0, .int .i64 0, .int .i64 0, .int .i64 0, .int .i64 0, .int .i64 0, .int .i64 0, .int .i64 0, .int .i64 0, .int .i64 0, .int .i64 0, .int .i64 0, .int .i64 0, .int .i64 0, .bool false, .int .i64 2]] w fun e w' => ∃ L', e = .returned (.tuple #[.int .i64 1, .int .i64 0]) ∧ TB w' g L' 8 [(7, p71), (9, p72)] ∧ Fr w w' L ∧ ∀ b, L' b → L b ∨ w.heap.size ≤ b) := Lib.hid (fun w g L h => by
    have := hT.2.2.2.1 w g L 8 [(7, p71)] 9 p72 (by decide) h
    rw [show tadN 8 [(7, p71)] 9 p72 = 1 by kernel_rfl, show tadE 8 [(7, p71)] 9 p72 = 0 by kernel_rfl, show tadR 8 [(7, p71)] 9 p72 = [(7, p71), (9, p72)] by rfl] at this
    exact this)
  have A3 : Hid (∀ w g L, TB w g L 8 [(7, p71), (9, p72)] → Calls Try.prog 12 #[.pointer (some ⟨g, 0, none⟩), .int .i64 7, .agg #[.int .i64 8, .int .i64 0, .int .i64 0, .int .i64 0, .int .i64 0, .int .i64 0, .int .i64 0, .int .i64 0, .int .i64 0, .int .i64 0, .int .i64 0, .int .i64 0, .int .i64 0, .int .i64 0, .int .i64 0, .int .i64 0, .int .i64 0, .int .i64 0, .int .i64 0, .int .i64 0, .int .i64 0, .int .i64 0, .bool false, .int .i64 0]] w fun e w' => ∃ L', e = .returned (.tuple #[.int .i64 0, .int .i64 5]) ∧ TB w' g L' 8 [(7, p71), (9, p72)] ∧ Fr w w' L ∧ ∀ b, L' b → L b ∨ w.heap.size ≤ b) := Lib.hid (fun w g L h => by
    have := hT.2.2.2.1 w g L 8 [(7, p71), (9, p72)] 7 p73 (by decide) h
    rw [show tadN 8 [(7, p71), (9, p72)] 7 p73 = 0 by kernel_rfl, show tadE 8 [(7, p71), (9, p72)] 7 p73 = 5 by kernel_rfl, show tadR 8 [(7, p71), (9, p72)] 7 p73 = [(7, p71), (9, p72)] by kernel_rfl] at this
    exact this)
  have A4 : Hid (∀ w g L, TB w g L 8 [(7, p71), (9, p72)] → Calls Try.prog 13 #[.pointer (some ⟨g, 0, none⟩), .int .i64 0] w fun e w' => ∃ L', e = .returned (.tuple #[.int .i64 9, .int .i64 0]) ∧ TB w' g L' 8 [(9, p72)] ∧ Fr w w' L ∧ ∀ b, L' b → L b ∨ w.heap.size ≤ b) := Lib.hid (fun w g L h => by
    have := hT.2.2.2.2.2.1 w g L 8 [(7, p71), (9, p72)] 0 (by decide) h
    rw [show tcuV [(7, p71), (9, p72)] 0 = 9 by kernel_rfl, show tcuE [(7, p71), (9, p72)] 0 = 0 by kernel_rfl, show tcuR [(7, p71), (9, p72)] 0 = [(9, p72)] by rfl] at this
    exact this)
  have A5 : Hid (∀ w g L, TB w g L 8 [(9, p72)] → Calls Try.prog 6 #[.pointer (some ⟨g, 0, none⟩), .int .i64 0] w fun e w' => e = .returned (.tuple #[.int .i64 9, .agg (pl p72).toArray, .bool true]) ∧ Below w.heap.size w w') := Lib.hid (fun w g L h => by
    refine (hT.2.2.2.2.2.2.1 w g L 8 [(9, p72)] 0 (by decide) h).mono ?_
    rintro e w' ⟨x, P, rfl, hx, hb⟩
    rw [show inR [(9, p72)] 0 = true by kernel_rfl] at hx ⊢
    have e2 : (x, P) = (9, p72) := hx rfl
    obtain ⟨rfl, rfl⟩ := Prod.mk.inj e2
    exact ⟨rfl, hb⟩)
  have A6 : Hid (∀ w g L, TB w g L 8 [(9, p72)] → Calls Try.prog 8 #[.pointer (some ⟨g, 0, none⟩), .int .i64 7] w fun e w' => e = .returned (.int .i64 (-1)) ∧ Below w.heap.size w w') := Lib.hid (fun w g L h => by
    have := hT.2.2.2.2.2.2.2.1 w g L 8 [(9, p72)] 7 (by decide) h
    rw [show findI [(9, p72)] 7 = -1 by kernel_rfl] at this
    exact this)
  have A7 : Hid (∀ w g L, TB w g L 8 [(9, p72)] → Calls Try.prog 10 #[.pointer (some ⟨g, 0, none⟩)] w fun e w' => e = .returned (.int .i64 1) ∧ Below w.heap.size w w') := Lib.hid (fun w g L h => hT.2.2.2.2.2.2.2.2 w g L 8 [(9, p72)] (by decide) h)
  have A0 := Lib.hid (hT.2.2.1 w 8 (by decide))
  have HTC := Lib.hid hT
  clear hT
  obtain ⟨X, hX⟩ : ∃ X, X = pl p72 := ⟨_, rfl⟩
  have HS : Hid ((Try.prog.info? 39).map (·.size) = some X.toArray.size) := Lib.hid (by rw [hX]; exact pl_size' p72)
  have HO : Hid (X.toArray.all (·.oneCell') = true) := Lib.hid (by rw [hX]; exact pl_one p72)
  have HLn : Hid (X.length = (pl zT).length) := Lib.hid (by rw [hX]; rfl)
  have H23 : Hid (X[23]? = some (.int .i64 2)) := Lib.hid (by rw [hX]; rfl)
  rw [← hX] at A5
  clear hX
  have HTh : Hid (∀ u : World, (u.alloc (.cells (pl zT).toArray 39)).there u.heap.size 0 X.toArray.size) := Lib.hid (fun u => blk_there (Blk.new u 39 (pl zT).toArray) (by rw [List.size_toArray, HLn.out]; omega))
  have HLd : Hid (∀ u : World, Below u.heap.size u ((u.alloc (.cells (pl zT).toArray 39)).setCells u.heap.size 0 X) ∧ Blk ((u.alloc (.cells (pl zT).toArray 39)).setCells u.heap.size 0 X) u.heap.size 39 X.toArray) := Lib.hid (fun u => ⟨below_setCells X (alloc_below _ _) (Nat.le_refl _), blk_store (Blk.new u 39 (pl zT).toArray) HLn.out⟩)
  go_enter Try.func5, Try.ntmps5
  go_wp2_with fail
  refine A0.out.mono ?_
  rintro e w1 ⟨g, L, rfl, tb, hl, hb⟩
  have HTB := Lib.hid tb
  have HL := Lib.hid hl
  have HB := Lib.hid hb
  clear tb hl hb A0
  go_wp2_with fail
  refine (A1.out _ _ _ HTB.out).mono ?_
  clear HTB
  rintro e w2 ⟨L', rfl, tb, fr, hl⟩
  have hsz := HB.out.size
  replace HB := Lib.hid (Fr.below fr HB.out HL.out hsz)
  replace HL : Hid (∀ b, L' b → w.heap.size ≤ b) := Lib.hid (fun b h => (hl b h).elim (HL.out b) (fun c => by omega))
  have HTB := Lib.hid tb
  clear tb fr hl hsz L A1
  obtain ⟨L, hL⟩ : ∃ L, L = L' := ⟨_, rfl⟩
  rw [← hL] at HTB HL
  clear hL L'
  go_wp2_with fail
  refine (A2.out _ _ _ HTB.out).mono ?_
  clear HTB
  rintro e w3 ⟨L', rfl, tb, fr, hl⟩
  have hsz := HB.out.size
  replace HB := Lib.hid (Fr.below fr HB.out HL.out hsz)
  replace HL : Hid (∀ b, L' b → w.heap.size ≤ b) := Lib.hid (fun b h => (hl b h).elim (HL.out b) (fun c => by omega))
  have HTB := Lib.hid tb
  clear tb fr hl hsz L A2
  obtain ⟨L, hL⟩ : ∃ L, L = L' := ⟨_, rfl⟩
  rw [← hL] at HTB HL
  clear hL L'
  go_wp2_with fail
  refine (A3.out _ _ _ HTB.out).mono ?_
  clear HTB
  rintro e w4 ⟨L', rfl, tb, fr, hl⟩
  have hsz := HB.out.size
  replace HB := Lib.hid (Fr.below fr HB.out HL.out hsz)
  replace HL : Hid (∀ b, L' b → w.heap.size ≤ b) := Lib.hid (fun b h => (hl b h).elim (HL.out b) (fun c => by omega))
  have HTB := Lib.hid tb
  clear tb fr hl hsz L A3
  obtain ⟨L, hL⟩ : ∃ L, L = L' := ⟨_, rfl⟩
  rw [← hL] at HTB HL
  clear hL L'
  go_wp2_with fail
  refine (A4.out _ _ _ HTB.out).mono ?_
  clear HTB
  rintro e w5 ⟨L', rfl, tb, fr, hl⟩
  have hsz := HB.out.size
  replace HB := Lib.hid (Fr.below fr HB.out HL.out hsz)
  replace HL : Hid (∀ b, L' b → w.heap.size ≤ b) := Lib.hid (fun b h => (hl b h).elim (HL.out b) (fun c => by omega))
  have HTB := Lib.hid tb
  clear tb fr hl hsz L A4
  obtain ⟨L, hL⟩ : ∃ L, L = L' := ⟨_, rfl⟩
  rw [← hL] at HTB HL
  clear hL L'
  go_wp2_with fail
  refine (A5.out _ _ _ HTB.out).mono ?_
  rintro e w6 ⟨rfl, b1⟩
  replace HTB := Lib.hid (tb_keep HTC.out HTB.out b1)
  replace HB := Lib.hid (bthen HB.out b1)
  clear b1 A5
  go_upto_region 7 with (refine wpList_store_mid rfl 39 (.tmp 12) (.tmp 45) rfl w6.heap.size 0 X.toArray rfl rfl (HTh.out w6) HS.out HO.out ?_)
  refine fin (fun W => Blk W w6.heap.size 39 X.toArray ∧ TB W g L 8 [(9, p72)] ∧ Below w.heap.size w W) ⟨(HLd.out w6).2, tb_keep HTC.out HTB.out (HLd.out w6).1, bthen HB.out (HLd.out w6).1⟩ ?_
  clear HTB HB HTh HLd
  rintro W ⟨kp, tb, hb⟩
  have c23 : W.cell? ⟨w6.heap.size, 23, none⟩ = some (.int .i64 2) := by rw [kp.cell 23]; simpa using H23.out
  have z := kp.lt
  have HTB := Lib.hid tb
  have HB := Lib.hid hb
  clear kp tb hb
  go_wp2_with fail
  refine (A6.out _ _ _ HTB.out).mono ?_
  rintro e w7 ⟨rfl, b1⟩
  replace HTB := Lib.hid (tb_keep HTC.out HTB.out b1)
  replace HB := Lib.hid (bthen HB.out b1)
  clear b1 A6 c23 z
  go_wp2_with fail
  refine (A7.out _ _ _ HTB.out).mono ?_
  rintro e w8 ⟨rfl, b1⟩
  replace HB := Lib.hid (bthen HB.out b1)
  clear b1 A7
  go_wp2
  go_ret
  exact ⟨rfl, HB.out⟩
end
end Go.Proofs.Ytpobnmcjmclgbaa
