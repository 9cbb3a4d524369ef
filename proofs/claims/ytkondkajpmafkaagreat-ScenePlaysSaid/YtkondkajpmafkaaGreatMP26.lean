/-
  3 texts in one file, each with its own heading.
-/
import Derived.Test.YtkondkajpmafkaaGreatMP25
import Derived.Shelf.SlIterI.Nil
import Derived.Shelf.SortM.Plain
import Derived.Shelf.SortM.SortNone
import Derived.Shelf.SlicesG.Clone
import Derived.Test.YtkondkajpmafkaaGreatProg
import Derived.Test.YtkondkajpmafkaaGreatMP13
import Derived.Lib.SlKeysI
/-
  The reference's store: what its New and Touch of layer 8 answer.
-/
namespace Go.Proofs.YtkondkajpmafkaaGreat
open Go.RowKit

def newE (k : Nat) (j : Nat) : Value := if j < 577 then (if j % 2 = 1 then .int .i64 (if (j - 513) / 2 < k then (((j - 513) / 2 : Nat) : Int) else 0) else .slice none 0 0) else if j = 577 then .int .i64 1 else .slice none 0 0
def newP (r : Int) : List Value := (List.range 513).map (poolF r z0 n0)
def newS (r : Int) : List Value := (List.range 580).map (poolX (newE 0) r z0 n0)
theorem build_np (r : Int) (W : World) : (Instr.build 89 #[(0, .int .i64 r)]).run Tryz.prog W = .ok (.agg (newP r).toArray) W := by kernel_rfl
theorem build_ns (r : Int) (W : World) : (Instr.build 96 #[(0, .agg (newP r).toArray), (2, .int .i64 1)]).run Tryz.prog W = .ok (.agg (newS r).toArray) W := by kernel_rfl
theorem wpList_bldA {ops : Array Oper} {rest : List Oper} {op : Oper} {a : Go.Act} {w : World} {Q : Exit → Go.Act → World → Prop} (hgd : op.guard = none) (t : TypeId) (x : Operand) (ho : op.op = .build t #[(0, x)]) (vx vr : Value) (hx : a.eval x = vx)
    (hrun : ∀ W, (Instr.build t #[(0, vx)]).run Tryz.prog W = .ok vr W)
    (h : wpList Tryz.prog ops Q rest (a.put op.dst vr) w) : wpList Tryz.prog ops Q (op :: rest) a w :=
  wpList_plain hgd fun K hK => by
    have h2 := hK _ _ h
    unfold Oper.wp execOp
    simp only [ho]
    simp [hx, hrun]
    exact h2
theorem wpList_bldB {ops : Array Oper} {rest : List Oper} {op : Oper} {a : Go.Act} {w : World} {Q : Exit → Go.Act → World → Prop} (hgd : op.guard = none) (t : TypeId) (x y : Operand) (ho : op.op = .build t #[(0, x), (2, y)]) (vx vy vr : Value) (hx : a.eval x = vx) (hy : a.eval y = vy)
    (hrun : ∀ W, (Instr.build t #[(0, vx), (2, vy)]).run Tryz.prog W = .ok vr W)
    (h : wpList Tryz.prog ops Q rest (a.put op.dst vr) w) : wpList Tryz.prog ops Q (op :: rest) a w :=
  wpList_plain hgd fun K hK => by
    have h2 := hK _ _ h
    unfold Oper.wp execOp
    simp only [ho]
    simp [hx, hy, hrun]
    exact h2
theorem newE_set {k : Nat} (hk : k < 32) {r : Int} (j : Nat) : (if j = 513 + k * 2 then Value.int .i64 (k : Int) else poolX (newE k) r z0 n0 j) = poolX (newE (k + 1)) r z0 n0 j := by
  unfold poolX newE
  by_cases c : j = 513 + k * 2
  · rw [if_pos c, if_neg (by omega), if_pos (by omega), if_pos (by omega), if_pos (by omega), show (j - 513) / 2 = k by omega]
  · rw [if_neg c]
    by_cases d : j < 513
    · rw [if_pos d, if_pos d]
    · rw [if_neg d, if_neg d]
      by_cases e : j < 577
      · rw [if_pos e, if_pos e]
        by_cases q : j % 2 = 1
        · rw [if_pos q, if_pos q]
          by_cases s : (j - 513) / 2 < k
          · rw [if_pos s, if_pos (by omega)]
          · rw [if_neg s, if_neg (by omega)]
        · rw [if_neg q, if_neg q]
      · rw [if_neg e, if_neg e]
theorem newE_end {r : Nat} (j : Nat) (hj : j < 580) : poolX (newE 32) r z0 n0 j = sF (St0 r) (fun _ => .slice none 0 0) (.slice none 0 0) (.slice none 0 0) j := by
  show _ = poolX (stE (fun _ => .slice none 0 0) 1 (.slice none 0 0) (.slice none 0 0)) r z0 n0 j
  unfold poolX newE stE
  by_cases d : j < 513
  · rw [if_pos d, if_pos d]
  · rw [if_neg d, if_neg d]
    by_cases e : j < 577
    · rw [if_pos e, if_pos e]
      by_cases q : j % 2 = 1
      · rw [if_pos q, if_pos q, if_pos (by omega)]
      · rw [if_neg q, if_neg q]
    · rw [if_neg e, if_neg e]
      by_cases q : j = 577
      · rw [if_pos q, if_pos q]
      · rw [if_neg q, if_neg q]; simp
theorem rb_new {w : World} {g r : Nat} (h : w.rowIs g 96 580 (poolX (newE 32) r z0 n0)) : RB w g (fun b => b = g) (St0 r) := by
  refine ⟨fun _ => .slice none 0 0, .slice none 0 0, .slice none 0 0, ⟨h.congr (fun j hj => newE_end j hj), fun i _ => ColX.nil _ _ _ _, ColX.nil _ _ _ _, ColX.nil _ _ _ _, fun i _ e => (by cases e), fun e => (by cases e), fun e => (by cases e), fun i _ b e => (by cases e), fun b e => (by cases e)⟩, fun b => ⟨fun e => Or.inl e, ?_⟩⟩
  rintro (e | ⟨i, _, e⟩ | e | e)
  · exact e
  · cases e
  · cases e
  · cases e

set_option maxHeartbeats 4000000 in
set_option maxRecDepth 100000 in
theorem rnew8_any (w : World) (r : Nat) :
    Calls Tryz.prog 28 #[.int .i64 r] w fun e w' => ∃ g F, e = .returned (.pointer (some ⟨g, 0, none⟩)) ∧ RB w' g F (St0 r) ∧ (∀ b, F b → w.heap.size ≤ b) ∧ Below w.heap.size w w' := by
  have HBp := Lib.hid (build_np (r : Int))
  have HBs := Lib.hid (build_ns (r : Int))
  have HR0 : Hid ((w.alloc (.cells (newS (r : Int)).toArray 96)).rowIs w.heap.size 96 580 (poolX (newE 0) r z0 n0)) := Lib.hid ⟨(newS (r : Int)).toArray, Blk.new _ _ _, by unfold newS; simp, fun i hi => by unfold newS; simp [hi]⟩
  obtain ⟨Xs, hXs⟩ : ∃ Xs, Xs = newS (r : Int) := ⟨_, rfl⟩
  obtain ⟨Xq, hXq⟩ : ∃ Xq, Xq = newP (r : Int) := ⟨_, rfl⟩
  rw [← hXs] at HBs HR0
  rw [← hXq] at HBp HBs
  clear hXs hXq
  go_enter Tryz.func28, Tryz.ntmps28
  go_wp2_with (first | refine wpList_bldA rfl 89 (.tmp 5) rfl (.int .i64 r) (.agg Xq.toArray) rfl HBp.out ?_ | refine wpList_bldB rfl 96 (.tmp 6) (.const (.int .i64 1)) rfl (.agg Xq.toArray) (.int .i64 1) (.agg Xs.toArray) rfl rfl HBs.out ?_)
  go_loopw [4] (fun i wr => ∃ k : Nat, k ≤ 32 ∧ i = .int .i64 k ∧ wr.rowIs w.heap.size 96 580 (poolX (newE k) r z0 n0) ∧ Below w.heap.size w wr) (fun i _ => 32 - (intOf i).toNat)
  case atStart => exact ⟨0, by omega, rfl, HR0.out, alloc_below _ _⟩
  case round =>
    obtain ⟨k, hk, rfl, hrow, hb⟩ := hrel
    have HRow := Lib.hid hrow
    have HB := Lib.hid hb
    have hg := hrow.lt
    by_cases hlt : k < 32
    · have k0 : (0 : Int) ≤ (k : Int) := by omega
      have k1 : (k : Int) < 32 := by omega
      have c0 := hrow.cell (i := 513 + k * 2) (by omega)
      have f0 := hrow.frozen (513 + k * 2)
      obtain ⟨u0, hu0⟩ : ∃ u0, u0 = poolX (newE k) r z0 n0 (513 + k * 2) := ⟨_, rfl⟩
      rw [← hu0] at c0
      clear hrow hb hu0
      go_wp2
      go_roundw
      case rel => exact ⟨k + 1, by omega, by go_num, (HRow.out.set (513 + k * 2) (.int .i64 k)).congr (fun j _ => newE_set hlt j), HB.out.setCell (p := ⟨w.heap.size, 513 + k * 2, none⟩) (Nat.le_refl _) _⟩
      case measure => simp [intOf] <;> omega
    · obtain rfl : k = 32 := by omega
      clear hrow hb
      go_wp2
      go_ret
      exact ⟨w.heap.size, _, rfl, rb_new HRow.out, fun b e => (by have e' : b = w.heap.size := e; omega), HB.out⟩

theorem live_to (S : St) (x y : Int) : liveS (to1 S x) y = liveS S y := by unfold to1; split <;> rfl
theorem live_tos : ∀ (l : List Int) (S : St) (y : Int), liveS (toS S l) y = liveS S y
  | [], _, _ => rfl
  | x :: l, S, y => (live_tos l (to1 S x) y).trans (live_to S x y)
theorem tos_snoc {S : St} {l : List Int} {k : Nat} {x : Int} (h : l[k]? = some x) : toS S (l.take (k + 1)) = to1 (toS S (l.take k)) x := by
  unfold toS
  rw [List.take_add_one, List.foldl_append, h]
  rfl
theorem ton_snoc {S : St} {l : List Int} {k : Nat} {x : Int} (h : l[k]? = some x) : toN S (l.take (k + 1)) = toN S (l.take k) + (if liveS S x then 1 else 0) := by
  unfold toN
  rw [List.take_add_one, List.filter_append, List.length_append, h]
  cases hlv : liveS S x <;> simp [hlv]
theorem tos_len : ∀ (l : List Int) (S : St), (toS S l).ch.length ≤ S.ch.length + l.length
  | [], _ => Nat.le_refl _
  | x :: l, S => by
    refine Nat.le_trans (tos_len l (to1 S x)) ?_
    have : (to1 S x).ch.length ≤ S.ch.length + 1 := by
      unfold to1
      split
      · exact mark_len _ _ _
      · omega
    rw [List.length_cons]; omega
set_option maxHeartbeats 4000000 in
set_option maxRecDepth 100000 in
theorem rtouch8_any {w : World} {g : Nat} {F : Nat → Prop} {S : St} (h0 : RB w g F S) (a : Option Addr) (n cap : Nat) (xs : List Int) (hl : S.ch.length + n ≤ 1000) (row : Row w a n xs) (haw : Aw F a n) :
    Calls Tryz.prog 68 #[.pointer (some ⟨g, 0, none⟩), .slice a n cap] w fun e w' => e = .returned (.int .i64 (toN S xs : Nat)) ∧ Chg RB w w' g F (toS S xs) := by
  have HRow := Lib.hid row
  have HAw := Lib.hid haw
  have HL := Lib.hid row.1
  have hbig := row.2.1
  have H0 := Lib.hid h0
  clear row haw h0
  go_enter Tryz.func68, Tryz.ntmps68
  go_wp2
  go_loopw [5, 6, 7] (fun v5 i _ wr => ∃ k : Nat, k ≤ n ∧ i = .int .i64 k ∧ v5 = .int .i64 (toN S (xs.take k) : Nat) ∧ Chg RB w wr g F (toS S (xs.take k))) (fun _ i _ _ => n - (intOf i).toNat)
  case atStart => exact ⟨0, by omega, rfl, rfl, Chg.still H0.out (Below.refl _ _)⟩
  case round =>
    obtain ⟨k, hk, rfl, rfl, hch⟩ := hrel
    obtain ⟨F1, hrb, hfr, hnew⟩ := hch
    have HRB := Lib.hid hrb
    have HFr := Lib.hid (And.intro hfr hnew)
    have hg : g < wr.heap.size := by obtain ⟨tv, cv, gv, h, hF⟩ := hrb; exact h.row.lt
    clear hrb hfr hnew
    by_cases hlt : k < n
    · obtain ⟨b, off, x, rfl, hx, cx⟩ := row_at (row_frame HRow.out HAw.out HFr.out.1) hlt
      have hb := World.block_lt_of_cell? _ _ cx
      have k0 : (0 : Int) ≤ (k : Int) := by omega
      have k1 : (k : Int) < (n : Int) := by omega
      have HSn := Lib.hid (tos_snoc (S := S) hx)
      have HNn := Lib.hid (ton_snoc (S := S) hx)
      have hkl : (toS S (xs.take k)).ch.length ≤ 1000 := by have := tos_len (xs.take k) S; rw [List.length_take] at this; omega
      obtain ⟨lv, hlv⟩ : ∃ lv, lv = liveS S x := ⟨_, rfl⟩
      have HLm : Hid (Calls Tryz.prog 76 #[.pointer (some ⟨g, 0, none⟩), .int .i64 x] wr.drew fun e w' => e = .returned (.bool lv) ∧ wr.drew = w') := Lib.hid (by
        obtain ⟨tv, cv, gv, h, hF⟩ := HRB.out
        rw [hlv, ← live_tos (xs.take k) S x]
        exact plive8 (E := stE tv (toS S (xs.take k)).now cv gv) (t := 96) (N := 580) (by omega) g (toS S (xs.take k)).room (toS S (xs.take k)).G (toS S (xs.take k)).L x wr.drew h.drew.row)
      have HLe := Lib.hid hlv
      have HMk : Hid (∀ u, u.heap = wr.heap → u.os = wr.os → u.tape = wr.tape → u.output = wr.output → Calls Tryz.prog 107 #[.pointer (some ⟨g, 0, none⟩), .int .i64 x] u fun e w' => e = .returned (.tuple #[]) ∧ Chg RB w w' g F { toS S (xs.take k) with ch := markL (toS S (xs.take k)).ch x (toS S (xs.take k)).now }) := Lib.hid (fun u e1 e2 e3 e4 => by
        have hu : RB u g F1 (toS S (xs.take k)) := by
          obtain ⟨tv, cv, gv, h, hF⟩ := HRB.out
          exact ⟨tv, cv, gv, h.same (fun b _ => by rw [e1]), hF⟩
        have hfu : Fr w u F := ⟨e2.trans HFr.out.1.1, e3.trans HFr.out.1.2.1, e4.trans HFr.out.1.2.2.1, by rw [e1]; exact HFr.out.1.2.2.2.1, fun b hb hn => by rw [e1]; exact HFr.out.1.2.2.2.2 b hb hn⟩
        exact (rmark_any hu hkl x).mono fun _ _ q => ⟨q.1, Chg.trans hfu HFr.out.2 q.2⟩)
      have HCs : Hid (Chg RB w wr.drew g F (toS S (xs.take k))) := Lib.hid (by
        obtain ⟨tv, cv, gv, h, hF⟩ := HRB.out
        exact ⟨F1, ⟨tv, cv, gv, h.drew, hF⟩, HFr.out.1, HFr.out.2⟩)
      obtain ⟨c, hc⟩ : ∃ c, c = toN S (xs.take k) := ⟨_, rfl⟩
      have hcl : c ≤ n := by rw [hc]; unfold toN; refine Nat.le_trans (List.length_filter_le _ _) ?_; rw [List.length_take]; omega
      rw [← hc] at HNn ⊢
      have CX := Lib.hid (show wr.drew.cell? ⟨b, off + k, none⟩ = some (.int .i64 x) from cx)
      clear hlv hx hc
      go_upto_region 5 with fail
      refine wp_region_held_drew (S := fun w' => w'.cell? ⟨b, off + k, none⟩ = some (.int .i64 x)) (by kernel_rfl) (CX.out) (fun hHeld => ?_)
      refine tk 0 hHeld ?_
      refine tk 1 hHeld ?_
      refine tk 2 hHeld ?_
      refine tk 3 hHeld ?_
      refine tk 4 hHeld ?_
      refine tk 5 hHeld ?_
      refine tk 6 hHeld ?_
      refine rd 7 (fun K hK => ?_)
      go_simp
      go_at_call 76
      refine (HLm.out).mono ?_
      rintro e w2 ⟨rfl, rfl⟩
      go_wp2_with fail
      refine hK.out _ _ (CX.out) (fun hHeld => ?_)
      clear hK K
      refine tk 8 hHeld ?_
      refine wpAnyH_done (by kernel_rfl) ?_ _
      clear hHeld HLm
      refine fin (fun W => W.heap = wr.heap ∧ W.os = wr.os ∧ W.tape = wr.tape ∧ W.output = wr.output ∧ Chg RB w W g F (toS S (xs.take k)) ∧ W.cell? ⟨b, off + k, none⟩ = some (.int .i64 x) ∧ b < W.heap.size ∧ g < W.heap.size) (W := wr.drew) ⟨rfl, rfl, rfl, rfl, HCs.out, CX.out, hb, hg⟩ ?_
      clear HCs CX hb hg cx
      rintro W1 ⟨q1, q2, q3, q4, hcs, cx, hb, hg⟩
      have HM1 := Lib.hid (HMk.out W1 q1 q2 q3 q4)
      have HCs := Lib.hid hcs
      clear q1 q2 q3 q4 hcs HMk
      cases lv with
      | false =>
        have e1 : Hid (toS S (xs.take (k + 1)) = toS S (xs.take k)) := Lib.hid (by rw [HSn.out]; unfold to1; rw [live_tos, ← HLe.out]; rfl)
        rw [← HLe.out] at HNn
        go_wp2
        go_roundw
        case rel => exact ⟨k + 1, by omega, by go_num, by rw [HNn.out]; rfl, by rw [e1.out]; exact HCs.out⟩
        case measure => simp [intOf] <;> omega
      | true =>
        have e1 : Hid (toS S (xs.take (k + 1)) = { toS S (xs.take k) with ch := markL (toS S (xs.take k)).ch x (toS S (xs.take k)).now }) := Lib.hid (by rw [HSn.out]; unfold to1; rw [live_tos, ← HLe.out]; rfl)
        rw [← HLe.out] at HNn
        go_wp2_with fail
        refine HM1.out.mono ?_
        rintro e w3 ⟨rfl, ch⟩
        have HC3 := Lib.hid ch
        clear ch HM1
        go_wp2
        go_roundw
        case rel => exact ⟨k + 1, by omega, by go_num, by rw [HNn.out]; simp, by rw [e1.out]; exact HC3.out⟩
        case measure => simp [intOf] <;> omega
    · obtain rfl : k = n := by omega
      rw [List.take_of_length_le (by rw [HL.out]; exact Nat.le_refl _)] at HRB
      have k2 : ¬ (k : Int) < (k : Int) := by omega
      rw [List.take_of_length_le (by rw [HL.out]; exact Nat.le_refl _)]
      go_wp2
      go_ret
      exact ⟨rfl, ⟨F1, HRB.out, HFr.out.1, HFr.out.2⟩⟩

end Go.Proofs.YtkondkajpmafkaaGreat
namespace Go.Proofs.YtkondkajpmafkaaGreat
open Go.Shelf
def lay_sortB_ren : Go.Shelf.Ren := ⟨fun | 5 => 88 | 8 => 124 | 7 => 123 | 19 => 156 | 20 => 157 | 10 => 147 | 11 => 148 | 12 => 149 | 13 => 150 | 14 => 151 | 15 => 152 | 16 => 153 | 17 => 154 | 18 => 155 | 30 => 174 | 31 => 175 | 32 => 176 | 33 => 177 | 34 => 178 | 35 => 179 | 40 => 197 | n => n, fun | 23 => 53 | 25 => 31 | 3 => 3 | 32 => 170 | 22 => 53 | 0 => 0 | 44 => 215 | 46 => 217 | 4 => 4 | 36 => 209 | 35 => 208 | 41 => 191 | 5 => 5 | 9 => 9 | 53 => 234 | 57 => 238 | 63 => 250 | 64 => 137 | n => n, fun | n => n⟩
theorem lay_sortB : Go.Proofs.SlLaysM.n5 Tryz.prog lay_sortB_ren := {
  mixed := by kernel_rfl
  f5 := ⟨Tryz.f88.name, by decide, Tryz.func88.trans (congrArg some (by kernel_rfl))⟩
  f7 := ⟨Tryz.f123.name, by decide, Tryz.func123.trans (congrArg some (by kernel_rfl))⟩
  f8 := Tryz.func124.trans (congrArg some (by kernel_rfl))
  f10 := ⟨Tryz.f147.name, by decide, Tryz.func147.trans (congrArg some (by kernel_rfl))⟩
  f11 := ⟨Tryz.f148.name, by decide, Tryz.func148.trans (congrArg some (by kernel_rfl))⟩
  f12 := ⟨Tryz.f149.name, by decide, Tryz.func149.trans (congrArg some (by kernel_rfl))⟩
  f13 := ⟨Tryz.f150.name, by decide, Tryz.func150.trans (congrArg some (by kernel_rfl))⟩
  f14 := ⟨Tryz.f151.name, by decide, Tryz.func151.trans (congrArg some (by kernel_rfl))⟩
  f15 := ⟨Tryz.f152.name, by decide, Tryz.func152.trans (congrArg some (by kernel_rfl))⟩
  f16 := ⟨Tryz.f153.name, by decide, Tryz.func153.trans (congrArg some (by kernel_rfl))⟩
  f17 := ⟨Tryz.f154.name, by decide, Tryz.func154.trans (congrArg some (by kernel_rfl))⟩
  f18 := ⟨Tryz.f155.name, by decide, Tryz.func155.trans (congrArg some (by kernel_rfl))⟩
  f19 := Tryz.func156.trans (congrArg some (by kernel_rfl))
  f20 := Tryz.func157.trans (congrArg some (by kernel_rfl))
  f30 := ⟨Tryz.f174.name, by decide, Tryz.func174.trans (congrArg some (by kernel_rfl))⟩
  f31 := Tryz.func175.trans (congrArg some (by kernel_rfl))
  f32 := Tryz.func176.trans (congrArg some (by kernel_rfl))
  f33 := ⟨Tryz.f177.name, by decide, Tryz.func177.trans (congrArg some (by kernel_rfl))⟩
  f34 := ⟨Tryz.f178.name, by decide, Tryz.func178.trans (congrArg some (by kernel_rfl))⟩
  f35 := ⟨Tryz.f179.name, by decide, Tryz.func179.trans (congrArg some (by kernel_rfl))⟩
  f40 := ⟨Tryz.f197.name, by decide, Tryz.func197.trans (congrArg some (by kernel_rfl))⟩
  t0 := Tryz.underlying0
  a0 := Tryz.isAgg0
  z0 := Tryz.sizeOf0
  v0 := Tryz.zeroValue0
  t3 := Tryz.underlying3
  a3 := Tryz.isAgg3
  z3 := Tryz.sizeOf3
  v3 := Tryz.zeroValue3
  t4 := Tryz.underlying4
  a4 := Tryz.isAgg4
  z4 := Tryz.sizeOf4
  v4 := Tryz.zeroValue4
  t5 := Tryz.underlying5
  a5 := Tryz.isAgg5
  z5 := Tryz.sizeOf5
  v5 := Tryz.zeroValue5
  t9 := Tryz.underlying9
  a9 := Tryz.isAgg9
  z9 := Tryz.sizeOf9
  v9 := Tryz.zeroValue9
  t22 := Tryz.underlying53
  a22 := Tryz.isAgg53
  z22 := Tryz.sizeOf53
  v22 := Tryz.zeroValue53
  t23 := Tryz.underlying53
  a23 := Tryz.isAgg53
  z23 := Tryz.sizeOf53
  v23 := Tryz.zeroValue53
  t25 := Tryz.underlying31
  a25 := Tryz.isAgg31
  z25 := Tryz.sizeOf31
  v25 := Tryz.zeroValue31
  t32 := Tryz.underlying170
  a32 := Tryz.isAgg170
  z32 := Tryz.sizeOf170
  v32 := Tryz.zeroValue170
  t35 := Tryz.underlying208
  a35 := Tryz.isAgg208
  z35 := Tryz.sizeOf208
  v35 := Tryz.zeroValue208
  t36 := Tryz.underlying209
  a36 := Tryz.isAgg209
  z36 := Tryz.sizeOf209
  v36 := Tryz.zeroValue209
  t41 := Tryz.underlying191
  a41 := Tryz.isAgg191
  z41 := Tryz.sizeOf191
  v41 := Tryz.zeroValue191
  t44 := Tryz.underlying215
  a44 := Tryz.isAgg215
  z44 := Tryz.sizeOf215
  v44 := Tryz.zeroValue215
  t46 := Tryz.underlying217
  a46 := Tryz.isAgg217
  z46 := Tryz.sizeOf217
  v46 := Tryz.zeroValue217
  t53 := Tryz.underlying234
  a53 := Tryz.isAgg234
  z53 := Tryz.sizeOf234
  v53 := Tryz.zeroValue234
  t57 := Tryz.underlying238
  a57 := Tryz.isAgg238
  z57 := Tryz.sizeOf238
  v57 := Tryz.zeroValue238
  t63 := Tryz.underlying250
  a63 := Tryz.isAgg250
  z63 := Tryz.sizeOf250
  v63 := Tryz.zeroValue250
  t64 := Tryz.underlying137
  a64 := Tryz.isAgg137
  z64 := Tryz.sizeOf137
  v64 := Tryz.zeroValue137 }
end Go.Proofs.YtkondkajpmafkaaGreat
namespace Go.Proofs.YtkondkajpmafkaaGreat
open Go.RowKit

def ivl : Value → Int
  | .int _ q => q
  | _ => 0
theorem takeW_le {x : Int} : ∀ (l : List Int), ∀ y ∈ l.takeWhile (fun y => decide (y ≤ x)), y ≤ x
  | [], y, h => by cases h
  | a :: l, y, h => by
    rw [List.takeWhile_cons] at h
    by_cases c : a ≤ x
    · rw [decide_eq_true c, if_pos rfl] at h
      rcases List.mem_cons.1 h with rfl | h
      · exact c
      · exact takeW_le l y h
    · rw [decide_eq_false c] at h
      cases h
theorem dropW_le {x : Int} : ∀ (l : List Int), l.Pairwise (· ≤ ·) → ∀ y ∈ l.dropWhile (fun y => decide (y ≤ x)), x ≤ y
  | [], _, y, h => by cases h
  | a :: l, hp, y, h => by
    rw [List.dropWhile_cons] at h
    by_cases c : a ≤ x
    · rw [decide_eq_true c, if_pos rfl] at h
      exact dropW_le l (List.pairwise_cons.1 hp).2 y h
    · rw [decide_eq_false c] at h
      simp only [Bool.false_eq_true, if_false] at h
      rcases List.mem_cons.1 h with rfl | h
      · omega
      · have := (List.pairwise_cons.1 hp).1 y h
        omega
theorem ins_sorted {out : List Int} (h : out.Pairwise (· ≤ ·)) (x : Int) : (insI out x).Pairwise (· ≤ ·) := by
  unfold insI
  refine List.pairwise_append.2 ⟨h.sublist (List.takeWhile_sublist _), List.pairwise_cons.2 ⟨dropW_le out h, h.sublist (List.dropWhile_sublist _)⟩, fun a ha b hb => ?_⟩
  have h1 := takeW_le out a ha
  rcases List.mem_cons.1 hb with rfl | hb
  · exact h1
  · have := dropW_le out h b hb
    omega
theorem sort_sorted : ∀ (l out : List Int), out.Pairwise (· ≤ ·) → (l.foldl insI out).Pairwise (· ≤ ·)
  | [], _, h => h
  | x :: l, out, h => sort_sorted l (insI out x) (ins_sorted h x)
theorem srt_eq {l l' : List Int} (h : l.Perm l') : l.mergeSort (fun x y => decide (x ≤ y)) = sortI l' := by
  have tr : ∀ a b c : Int, decide (a ≤ b) = true → decide (b ≤ c) = true → decide (a ≤ c) = true := fun a b c h1 h2 => by simp only [decide_eq_true_eq] at *; omega
  have tt : ∀ a b : Int, (decide (a ≤ b) || decide (b ≤ a)) = true := fun a b => by simp only [Bool.or_eq_true, decide_eq_true_eq]; omega
  have hp : (sortI l').Perm l' := by have := sort_perm l' []; rwa [List.append_nil] at this
  refine List.Perm.eq_of_pairwise (le := fun a b => decide (a ≤ b) = true) (fun a b _ _ h1 h2 => ?_) (List.pairwise_mergeSort tr tt l) ((sort_sorted l' [] List.Pairwise.nil).imp (fun {a b} c => decide_eq_true c)) (((List.mergeSort_perm l _).trans h).trans hp.symm)
  simp only [decide_eq_true_eq] at h1 h2
  omega
theorem sort9_any {w : World} {base n : Nat} {v : Value} {xs : List Int} (h : OwnD w base v n xs) (hn : n ≤ 100000) :
    Calls Tryz.prog 88 #[v] w fun e w' => e = .returned (.tuple #[]) ∧ OwnD w' base v n (xs.mergeSort (fun x y => decide (x ≤ y))) ∧ w.grownBy w' v.ownBlock := by
  have hl : xs.length = n := by have := h.1; rw [List.length_map, Nat.mul_one] at this; exact this
  rcases h.2 with ⟨rfl, h0⟩ | ⟨g, cap, cur, rfl, hb, hg, hn1, hm, hs, ht⟩
  · have hx : xs = [] := List.eq_nil_of_length_eq_zero (by omega)
    subst hx
    refine (AnyM.slices_Sort_int_none lay_sortB none 0 w).mono ?_
    rintro e w' ⟨rfl, rfl⟩
    exact ⟨rfl, by simpa using h, ⟨rfl, rfl, rfl, Nat.le_refl _, fun _ _ _ => rfl⟩⟩
  · subst hl
    have hH : Go.Sort.Holds encZ w g 0 xs.toArray := holds_of_block_i hg (by simpa using ht)
    refine (AnyM.slices_Sort_int lay_sortB g 0 cap xs w hH (Array.getElem?_eq_some_iff.1 hg).1 (by omega)).mono ?_
    rintro e w' ⟨rfl, nn, os, rfl⟩
    exact ⟨rfl, ownsRow_sorted_i (by simp) hb hg hn1 hm (by simpa using hs), grownBy_sorted_i _⟩

theorem LRes.of9 {w w' : World} {base : Nat} {v : Value} {n : Nat} {zs : List Int} (h : OwnD w' base v n zs) (hw : w.heap.size ≤ base) : LRes w w' zs v := by
  obtain ⟨a, cap, rfl, hr⟩ := h.row
  have hl : zs.length = n := hr.1
  subst hl
  refine ⟨a, cap, rfl, hr, ?_⟩
  rcases h.2 with ⟨_, h0⟩ | ⟨g, cap', cur, hv, hb, _⟩
  · exact Or.inl h0
  · refine Or.inr (fun ad e => ?_)
    injection hv with hv _ _
    rw [e] at hv
    injection hv with hv
    rw [hv]
    exact Nat.le_trans hw hb
theorem own_below9 {w wr w' : World} {base : Nat} {v : Value} {n : Nat} {zs : List Int} (ho : OwnD wr base v n zs) (hw : w.heap.size ≤ base) (hb : Below w.heap.size w wr) (hg : wr.grownBy w' v.ownBlock) : Below w.heap.size w w' :=
  ⟨hg.os.trans hb.os, hg.tape.trans hb.tape, hg.output.trans hb.output, Nat.le_trans hb.size hg.size, fun k hk => (hg.block k (Nat.lt_of_lt_of_le hk hb.size) (fun e => by have := (World.ownsRow.lt ho k e.symm).1; omega)).trans (hb.block k hk)⟩
end Go.Proofs.YtkondkajpmafkaaGreat
