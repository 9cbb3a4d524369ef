/-
  13 texts in one file, each with its own heading.
-/
import Derived.Test.YtiognhmjadiooaaMV09
import Derived.Test.YtiognhmjadiooaaMV06
import Derived.Maps.OwnSet
import Derived.Lib.SlKeysI
import Derived.Deep.QuietTactic
import Derived.Maps.AppendAt
import Derived.Test.YtiognhmjadiooaaMV05
import Derived.Test.YtiognhmjadiooaaMV04
import Derived.Test.YtiognhmjadiooaaMV02
/-
  The record of the least name; what a merge of two lists whose names rise keeps; the merge's statement that draws its order.
-/
namespace Go.Proofs.Ytiognhmjadiooaa
open Go.RowKit

structure MrgAt (F O Z F' O' : List Rc) : Prop where
  rz : Rise Z
  rf : Rise F'
  ro : Rise O'
  zf : ∀ z ∈ Z, ∀ x ∈ F', z.id < x.id
  zo : ∀ z ∈ Z, ∀ x ∈ O', z.id < x.id
  lk : ∀ k, (look k Z).or ((look k F').or (look k O')) = (look k F).or (look k O)
theorem bs_rc1 (x : Rc) (W : World) : (Instr.buildSlice 44 1 #[(0, .agg (cRc x).toArray)]).run Try.prog W = .ok (.slice (some ⟨W.heap.size, 0, none⟩) 1 1) (W.alloc (.cells (cRc x).toArray 35)) := by kernel_rfl
def Rg (x : Int) : Prop := -9223372036854775808 ≤ x ∧ x ≤ 9223372036854775807
instance (x : Int) : Decidable (Rg x) := by unfold Rg; exact inferInstance
def Rgs (xs : List Int) : Prop := ∀ x ∈ xs, Rg x
instance (xs : List Int) : Decidable (Rgs xs) := by unfold Rgs; exact inferInstance
structure MK (α : Type) where
  t : TypeId
  e : TypeId
  V : Option α → Value
  E : Option α → DataW Unit
  R : Value → Option (DataW Unit × List MemPlace)
  ht : Try.prog.underlying t = some (.map 31 e)
  hz : ∀ w, (zeroValue e).run Try.prog w = .ok (V none) w
  rv : ∀ o, R (V o) = some (E o, [])
  inv : ∀ v o ps, R v = some (E o, ps) → v = V o
section
variable {α : Type} {k : MK α} {w w' : World} {mb : Nat} {m : Int → Option α} {x : Int}
end
section
variable {α : Type} {k : Nat} {c : α → List Value} {t : TypeId} {w w' : World} {base : Nat} {v : Value} {X : List α}
theorem wpList_pushY {ops : Array Oper} {rest : List Oper} {op : Oper} {a : Go.Act} {Q : Exit → Go.Act → World → Prop} (hgd : op.guard = none) (ts tb : Operand) (tl : TypeId) (by_ : Nat) (z : Value)
    (ho : op.op = .call { callee := .builtin .append, args := #[ts, tb], argTypes := #[tl, tl] }) (hu : Try.prog.underlying tl = some (.slice t))
    (hinfo : (Try.prog.info? t).map (fun i => (i.zero, i.size, i.bytes)) = some (some z, k, by_)) (hzs : z.cells.size = k) (hk : 0 < k) (hc : ∀ x, (c x).length = k) (x : α) (hone : ∀ u ∈ c x, u.oneCell' = true)
    (hs : a.eval ts = v) (hown : OwnX k c t w base v X) (gb : Nat) (cap : Nat) (hx : a.eval tb = .slice (some ⟨gb, 0, none⟩) 1 cap) (hb : w.rangeAt gb 0 (c x)) (hbytes : (X.length + 1) * by_ ≤ 140737488355328) (hX : X.length + 1 ≤ maxLen) (hbs : base ≤ w.heap.size)
    (h : ∀ v' w', OwnX k c t w' base v' (X ++ [x]) → w.grownBy w' v.ownBlock → (v'.ownBlock = v.ownBlock ∨ v'.ownBlock = some w.heap.size) → wpList Try.prog ops Q rest (a.put op.dst v') w') : wpList Try.prog ops Q (op :: rest) a w := by
  obtain ⟨i0, hi0, hz0, hz1, hz2⟩ := info_parts hinfo
  refine wpList_append_own_at w hgd ts tb tl ho base t i0 z k by_ hu hi0 hz0 hz1 hz2 hzs hk v X.length (X.flatMap c) hs hown ⟨gb, 0, none⟩ 1 cap (c x) hx (by rw [hc x, Nat.one_mul]) (fun j u hj => by
    have := hb j u hj
    rw [Addr.add_lit]
    exact this) hone hX hbytes hbs ?_
  intro v' w' h1 h2 _ h4
  refine h v' w' ?_ h2 h4
  unfold OwnX
  rw [List.length_append, List.flatMap_append]
  simpa using h1
end
theorem bs_rf1 (x : Rc) (W : World) : (Instr.buildSlice 42 1 #[(0, .agg (cRc x).toArray)]).run Try.prog W = .ok (.slice (some ⟨W.heap.size, 0, none⟩) 1 1) (W.alloc (.cells (cRc x).toArray 41)) := by kernel_rfl
theorem rf_size (x : Rc) : (Try.prog.info? 41).map (·.size) = some (cRc x).length := by
  rw [cRc_len]; kernel_rfl
theorem rc_cells {W : World} {g : Nat} {t : TypeId} {x : Rc} (k : Blk W g t (cRc x).toArray) :
    W.cell? ⟨g, 0, none⟩ = some (.int .i64 x.id) ∧ W.cell? ⟨g, 1, none⟩ = some (.int .i64 x.ms) ∧ W.cell? ⟨g, 2, none⟩ = some (.int .i64 x.pp) ∧ W.cell? ⟨g, 3, none⟩ = some (.int .i64 x.mt) ∧ W.cell? ⟨g, 4, none⟩ = some (.bool x.cl) ∧ W.cell? ⟨g, 5, none⟩ = some (.int .i64 x.ly) ∧
    W.cell? ⟨g, 6, none⟩ = some (.int .i64 x.x0) ∧ W.cell? ⟨g, 7, none⟩ = some (.int .i64 x.x1) ∧ W.cell? ⟨g, 8, none⟩ = some (.int .i64 x.x2) ∧ W.cell? ⟨g, 9, none⟩ = some (.int .i64 x.x3) ∧ W.cell? ⟨g, 10, none⟩ = some (.int .i64 x.x4) ∧ W.cell? ⟨g, 11, none⟩ = some (.int .i64 x.x5) :=
  ⟨k.cell 0, k.cell 1, k.cell 2, k.cell 3, k.cell 4, k.cell 5, k.cell 6, k.cell 7, k.cell 8, k.cell 9, k.cell 10, k.cell 11⟩
set_option maxHeartbeats 8000000 in
set_option maxRecDepth 100000 in
theorem gof_any (av : Option Addr) (n cap : Nat) (X : List Rc) (w : World) (row : RcRow w av n X) (hn : n * 96 ≤ 140737488355328) :
    Calls Try.prog 9 #[.slice av n cap] w fun e w' => ∃ v, e = .returned v ∧ OwnX 12 cRc 41 w' w.heap.size v X ∧ Below w.heap.size w w' := by
  have hbig := row.2.1
  have HLn := Lib.hid row.1
  have HRow := Lib.hid row
  clear row
  go_enter Try.func9, Try.ntmps9
  go_wp2
  go_loopw [3, 4, 5] (fun v3 v4 _ wr => ∃ j : Nat, v4 = .int .i64 j ∧ j ≤ n ∧ OwnX 12 cRc 41 wr w.heap.size v3 (X.take j) ∧ Below w.heap.size w wr) (fun _ v4 _ _ => n - (ivl v4).toNat)
  case atStart => exact ⟨0, rfl, by omega, OwnX.nil _ _ _ _ _, Below.refl _ _⟩
  case round =>
    obtain ⟨j, rfl, hj, ho, hb⟩ := hrel
    have HO := Lib.hid ho
    have HB := Lib.hid hb
    clear ho hb
    by_cases hlt : j < n
    · obtain ⟨b, off, x, rfl, hbl, hx, hr⟩ := HRow.out.at_ hlt
      have HTk : Hid (X.take (j + 1) = X.take j ++ [x]) := Lib.hid (by rw [List.take_add_one, hx]; rfl)
      have hpl : (X.take j).length = j := by rw [List.length_take, HLn.out]; omega
      have HLt : Hid (((X.take j).length + 1) * 96 ≤ 140737488355328 ∧ (X.take j).length + 1 ≤ maxLen) := Lib.hid (by rw [hpl]; unfold maxLen; omega)
      have HL0 : Hid (wr.rangeAt b (off + j * 12) (cRc x)) := Lib.hid (range_same hr (HB.out.block b hbl))
      have KN := Blk.new wr 35 (cRc zRc).toArray
      have HW1 : Hid (Blk ((wr.alloc (.cells (cRc zRc).toArray 35)).setCells wr.heap.size 0 (cRc x)) wr.heap.size 35 (cRc x).toArray ∧ OwnX 12 cRc 41 ((wr.alloc (.cells (cRc zRc).toArray 35)).setCells wr.heap.size 0 (cRc x)) w.heap.size u3 (X.take j) ∧ Below w.heap.size w ((wr.alloc (.cells (cRc zRc).toArray 35)).setCells wr.heap.size 0 (cRc x))) := Lib.hid (by
        have hbel : Below wr.heap.size wr ((wr.alloc (.cells (cRc zRc).toArray 35)).setCells wr.heap.size 0 (cRc x)) := below_setCells _ (alloc_below _ _) (Nat.le_refl _)
        refine ⟨?_, HO.out.keep hbel, bthen HB.out hbel⟩
        have := blk_setCells (cRc x) (o := 0) KN (Nat.le_refl 12)
        rw [splice_rc] at this
        exact this)
      have HTh0 : Hid ((wr.alloc (.cells (cRc zRc).toArray 35)).there wr.heap.size 0 12) := Lib.hid (blk_there KN (Nat.le_refl 12))
      have HSz := Lib.hid (rc_size x)
      have HOx := Lib.hid (rc_all x)
      have HCs : Hid (∀ W g, Blk W g 35 (cRc x).toArray → W.cell? ⟨g, 0, none⟩ = some (.int .i64 x.id) ∧ W.cell? ⟨g, 1, none⟩ = some (.int .i64 x.ms) ∧ W.cell? ⟨g, 2, none⟩ = some (.int .i64 x.pp) ∧ W.cell? ⟨g, 3, none⟩ = some (.int .i64 x.mt) ∧ W.cell? ⟨g, 4, none⟩ = some (.bool x.cl) ∧ W.cell? ⟨g, 5, none⟩ = some (.int .i64 x.ly) ∧
    W.cell? ⟨g, 6, none⟩ = some (.int .i64 x.x0) ∧ W.cell? ⟨g, 7, none⟩ = some (.int .i64 x.x1) ∧ W.cell? ⟨g, 8, none⟩ = some (.int .i64 x.x2) ∧ W.cell? ⟨g, 9, none⟩ = some (.int .i64 x.x3) ∧ W.cell? ⟨g, 10, none⟩ = some (.int .i64 x.x4) ∧ W.cell? ⟨g, 11, none⟩ = some (.int .i64 x.x5)) := Lib.hid (fun W g k => rc_cells k)
      obtain ⟨XX, hXX⟩ : ∃ XX, XX = cRc x := ⟨_, rfl⟩
      have HLx : Hid (XX.length = 12) := Lib.hid (by rw [hXX]; rfl)
      rw [← hXX] at HL0 HW1 HSz HOx HCs
      have HSz' : Hid ((Try.prog.info? 35).map (·.size) = some XX.toArray.size) := HSz
      have HTh : Hid ((wr.alloc (.cells (cRc zRc).toArray 35)).there wr.heap.size 0 XX.toArray.size) := Lib.hid (by show World.there _ _ 0 XX.length; rw [HLx.out]; exact HTh0.out)
      have j0 : (0 : Int) ≤ (j : Int) := by omega
      have j1 : (j : Int) < (n : Int) := by omega
      clear KN HTh0 hXX hx hr hbl HO HB
      go_upto_region 6 with (first
        | refine wpList_load_mid rfl 35 (.tmp 14) rfl b (off + j * 12) rfl XX _ HL0.out Try.underlying35 rfl HSz.out ?_
        | refine wpList_store_mid rfl 35 (.tmp 5) (.tmp 15) rfl wr.heap.size 0 XX.toArray rfl rfl HTh.out HSz'.out HOx.out ?_)
      refine fin (fun W => Blk W wr.heap.size 35 XX.toArray ∧ OwnX 12 cRc 41 W w.heap.size u3 (X.take j) ∧ Below w.heap.size w W) HW1.out ?_
      obtain ⟨g5, hg⟩ : ∃ g5, g5 = wr.heap.size := ⟨_, rfl⟩
      rw [← hg]
      clear HW1 HTh HL0 hg
      rintro W ⟨kx, ho, hb⟩
      obtain ⟨c0, c1, c2, c3, c4, c5, c6, c7, c8, c9, c10, c11⟩ := HCs.out _ _ kx
      have HO := Lib.hid ho
      have HB := Lib.hid hb
      have hbs := bs_rf1 x
      unfold cRc at hbs
      have hgl := kx.lt
      have hws : Hid (w.heap.size ≤ W.heap.size) := Lib.hid hb.size
      clear kx ho hb HCs
      go_wp2_with (at_builtin; refine wpList_pushY rfl (.tmp 16) (.tmp 32) 42 96 (.agg (cRc zRc).toArray) rfl Try.underlying42 zRf_info rfl (by decide) cRc_len x (cRc_one x) rfl (HO.out.keep (alloc_below _ _)) W.heap.size 1 rfl (blk_whole (X := cRc x) (Blk.new W _ _)) HLt.out.1 HLt.out.2 (Nat.le_trans hws.out (by simp)) ?_)
      intro v' W3 k1 k2 k3
      have K : Hid (OwnX 12 cRc 41 W3 w.heap.size v' (X.take (j + 1)) ∧ Below w.heap.size w W3) := Lib.hid ⟨by rw [HTk.out]; exact k1, grown_below2 (bthen HB.out (alloc_below _ _)) k2 (fun b e => (HO.out.lt b e).1)⟩
      clear k1 k2 k3 HO HB c0 c1 c2 c3 c4 c5 c6 c7 c8 c9 c10 c11 hbs
      go_wp2
      go_roundw
      case rel => exact ⟨j + 1, by go_num, by omega, K.out.1, K.out.2⟩
      case measure => simp [ivl] <;> omega
    · obtain rfl : j = n := by omega
      have j2 : ¬ (j : Int) < (j : Int) := by omega
      have HOz : Hid (OwnX 12 cRc 41 wr w.heap.size u3 X) := Lib.hid (by
        have q := HO.out
        rw [List.take_of_length_le (by rw [HLn.out]; exact Nat.le_refl _)] at q
        exact q)
      go_wp2
      go_ret
      exact ⟨u3, rfl, HOz.out, HB.out⟩
theorem row_of {w : World} {t : TypeId} {base : Nat} {v : Value} {X : List Rc} (h : OwnX 12 cRc t w base v X) (hX : 0 < X.length) : ∃ b cap, v = .slice (some ⟨b, 0, none⟩) X.length cap ∧ X.length ≤ cap ∧ cap ≤ maxLen ∧ RcRow w (some ⟨b, 0, none⟩) X.length X ∧ ∀ i x, X[i]? = some x → w.rangeAt b (i * 12) (cRc x) := by
  obtain ⟨g, cap, hv, _, h1, h2, hm⟩ := h.mr hX
  exact ⟨g, cap, hv, h1, h2, hm.row (by unfold maxLen at h2; omega), fun i x hi => hm.range cRc_len hi⟩
end Go.Proofs.Ytiognhmjadiooaa
