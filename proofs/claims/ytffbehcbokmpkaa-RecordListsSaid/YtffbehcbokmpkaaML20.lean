/-
  2 texts in one file, each with its own heading.
-/
import Derived.Test.YtffbehcbokmpkaaML19
import Derived.Test.YtffbehcbokmpkaaML1A
/-
  Remove, walked: the records whose names are not among some.
-/
namespace Go.Proofs.Ytffbehcbokmpkaa
open Go.RowKit

def remL (X : List Rc) (zs : List Int) : List Rc := X.filter (fun r => !decide (r.id ∈ zs))
theorem zv_unit (w : World) : (zeroValue 72).run Try.prog w = .ok (.agg #[]) w := by kernel_rfl
def kU : MK Unit := mkA 71 72 (fun _ => .agg #[]) Try.underlying71 zv_unit (fun _ => ⟨[], rfl, fun u h => by cases h⟩)
def inU (l : List Int) (y : Int) : Option Unit := if y ∈ l then some () else none
theorem inU_some (l : List Int) (y : Int) : (inU l y).isSome = decide (y ∈ l) := by
  unfold inU
  by_cases h : y ∈ l <;> simp [h]
theorem inU_put (l : List Int) (x : Int) : upm (inU l) x (some ()) = inU (l ++ [x]) := funext fun y => by
  unfold upm inU
  by_cases e : y = x
  · rw [if_pos e, if_pos (List.mem_append.2 (Or.inr (by rw [e]; exact List.mem_singleton_self _)))]
  · rw [if_neg e]
    by_cases m : y ∈ l
    · rw [if_pos m, if_pos (List.mem_append.2 (Or.inl m))]
    · rw [if_neg m, if_neg (fun h => by rcases List.mem_append.1 h with h | h; exact m h; exact e (List.mem_singleton.1 h))]
theorem rem_step {X : List Rc} {zs : List Int} {j : Nat} {x : Rc} (h : X[j]? = some x) : remL (X.take (j + 1)) zs = remL (X.take j) zs ++ (if x.id ∈ zs then [] else [x]) := by
  unfold remL
  rw [List.take_add_one, h, List.filter_append]
  by_cases q : x.id ∈ zs <;> simp [q]
set_option maxHeartbeats 16000000 in
set_option maxRecDepth 100000 in
theorem remove_any (av : Option Addr) (n cap : Nat) (X : List Rc) (ai : Option Addr) (ni ci : Nat) (zs : List Int) (w : World) (row : RcRow w av n X) (ri : Row w ai ni zs) (hn : n ≤ 2000) (hni : ni ≤ 2000) (hX : ∀ x ∈ X, Rg x.id) (hz : Rgs zs) :
    Calls Try.prog 15 #[.slice av n cap, .slice ai ni ci] w fun e w' => ∃ v, e = .returned v ∧ OwnX 12 cRc 36 w' w.heap.size v (remL X zs) ∧ Below w.heap.size w w' := by
  have hmm := @run_makeMap Try.prog
  have hbig := ri.2.1
  have hbig2 := row.2.1
  have HLz := Lib.hid ri.1
  have HLn := Lib.hid row.1
  have HRi := Lib.hid ri
  have HRow := Lib.hid row
  have HRg := Lib.hid (And.intro hX hz)
  have HM0 : Hid (MF kU (w.alloc (.map #[] 0)) w.heap.size (inU []) ∧ Below w.heap.size w (w.alloc (.map #[] 0))) := Lib.hid ⟨MF.new kU w, alloc_below _ _⟩
  have HZs : Hid (zs.take ni = zs) := Lib.hid (List.take_of_length_le (by rw [HLz.out]; exact Nat.le_refl _))
  clear row ri hX hz
  go_enter Try.func15, Try.ntmps15
  go_wp2
  go_loopw [7, 16] (fun _ v16 wr => ∃ j : Nat, v16 = .int .i64 j ∧ j ≤ ni ∧ MF kU wr w.heap.size (inU (zs.take j)) ∧ Below w.heap.size w wr) (fun _ v16 _ => ni - (ivl v16).toNat)
  case atStart => exact ⟨0, rfl, by omega, HM0.out.1, HM0.out.2⟩
  case round =>
    clear HM0
    obtain ⟨j, rfl, hj, hm, hb⟩ := hrel
    have HM := Lib.hid hm
    have HB := Lib.hid hb
    clear hm hb
    by_cases hlt : j < ni
    · have hlz := HLz.out
      rcases (row_keep HRi.out HB.out).2.2 with h0 | ⟨b, off, ha, hcell⟩
      · omega
      have cx : wr.cell? ⟨b, off + j, none⟩ = some (.int .i64 (zs.getD j 0)) := hcell j hlt
      have hget : zs[j]? = some (zs.getD j 0) := by rw [List.getElem?_eq_getElem (by omega), List.getD, List.getElem?_eq_getElem (by omega)]; rfl
      obtain ⟨x, hx⟩ : ∃ x, x = zs.getD j 0 := ⟨_, rfl⟩
      rw [← hx] at cx hget
      have hrg : Rg x := HRg.out.2 x (List.mem_of_getElem? hget)
      have hpm : upm (inU (zs.take j)) x (some ()) = inU (zs.take (j + 1)) := by rw [inU_put, List.take_add_one, hget]; rfl
      obtain ⟨w2, hrun, hm2, hg2⟩ := HM.out.put hrg () (zs.take (j + 1)) (fun y hy => by
        rw [hpm, inU_some] at hy
        exact of_decide_eq_true hy) (by rw [List.length_take]; omega)
      have HM2 : Hid (MF kU w2 w.heap.size (inU (zs.take (j + 1))) ∧ Below w.heap.size w w2) := Lib.hid ⟨hpm ▸ hm2, grown_below2 HB.out hg2 (fun b e => by injection e with e; omega)⟩
      have hrun' : (Instr.mapUpdate 71 (.map (some w.heap.size)) (.int .i64 x) (.agg #[])).run Try.prog wr = .ok () w2 := hrun
      have j0 : (0 : Int) ≤ (j : Int) := by omega
      have j1 : (j : Int) < (ni : Int) := by omega
      subst ha
      clear hx hget hrg hpm hrun hm2 hg2 hcell hlz HM HB
      go_wp2
      go_roundw
      case rel => exact ⟨j + 1, by go_num, by omega, HM2.out.1, HM2.out.2⟩
      case measure => simp [ivl] <;> omega
    · obtain rfl : j = ni := by omega
      have j1 : ¬ (j : Int) < (j : Int) := by omega
      have HMz : Hid (MF kU wr w.heap.size (inU zs)) := Lib.hid (HZs.out ▸ HM.out)
      have hws : w.heap.size < wr.heap.size := HM.out.lt
      clear HM
      go_wp2
      go_loopw [8, 10, 11, 12, 26] (fun v8 _ _ _ v26 wr => ∃ k : Nat, v26 = .int .i64 k ∧ k ≤ n ∧ OwnX 12 cRc 36 wr (w.heap.size + 1) v8 (remL (X.take k) zs) ∧ MF kU wr w.heap.size (inU zs) ∧ Below w.heap.size w wr) (fun _ _ _ _ v26 _ => n - (ivl v26).toNat)
      case atStart => exact ⟨0, rfl, by omega, OwnX.nil _ _ _ _ _, HMz.out, HB.out⟩
      case round =>
        clear HMz HB hws
        obtain ⟨k, rfl, hk, ho, hm, hb⟩ := hrel
        have HO := Lib.hid ho
        have HM := Lib.hid hm
        have HB := Lib.hid hb
        have hws : w.heap.size < wr.heap.size := hm.lt
        clear ho hm hb
        by_cases hlt2 : k < n
        · obtain ⟨b, off, x, rfl, hbl, hx, hr⟩ := HRow.out.at_ hlt2
          have hrg : Rg x.id := HRg.out.1 x (List.mem_of_getElem? hx)
          have HStp := Lib.hid (rem_step (zs := zs) hx)
          have HL0 : Hid (wr.rangeAt b (off + k * 12) (cRc x)) := Lib.hid (range_same hr (HB.out.block b hbl))
          have KN := Blk.new wr 36 (cRc zRc).toArray
          have HW1 : Hid (Blk ((wr.alloc (.cells (cRc zRc).toArray 36)).setCells wr.heap.size 0 (cRc x)) wr.heap.size 36 (cRc x).toArray ∧ OwnX 12 cRc 36 ((wr.alloc (.cells (cRc zRc).toArray 36)).setCells wr.heap.size 0 (cRc x)) (w.heap.size + 1) u8 (remL (X.take k) zs) ∧ MF kU ((wr.alloc (.cells (cRc zRc).toArray 36)).setCells wr.heap.size 0 (cRc x)) w.heap.size (inU zs) ∧ Below w.heap.size w ((wr.alloc (.cells (cRc zRc).toArray 36)).setCells wr.heap.size 0 (cRc x))) := Lib.hid (by
            have hbel : Below wr.heap.size wr ((wr.alloc (.cells (cRc zRc).toArray 36)).setCells wr.heap.size 0 (cRc x)) := below_setCells _ (alloc_below _ _) (Nat.le_refl _)
            refine ⟨?_, HO.out.keep hbel, HM.out.keep hbel, bthen HB.out hbel⟩
            have := blk_setCells (cRc x) (o := 0) KN (Nat.le_refl 12)
            rw [splice_rc] at this
            exact this)
          have HTh0 : Hid ((wr.alloc (.cells (cRc zRc).toArray 36)).there wr.heap.size 0 12) := Lib.hid (blk_there KN (Nat.le_refl 12))
          have HSz := Lib.hid (rc_size x)
          have HOx := Lib.hid (rc_all x)
          have HB1s : Hid (∀ W, (Instr.buildSlice 46 1 #[(0, .agg (cRc x).toArray)]).run Try.prog W = .ok (.slice (some ⟨W.heap.size, 0, none⟩) 1 1) (W.alloc (.cells (cRc x).toArray 36))) := Lib.hid (bs_rc1 x)
          have HCi : Hid (∀ W g, Blk W g 36 (cRc x).toArray → W.cell? ⟨g, 0, none⟩ = some (.int .i64 x.id)) := Lib.hid (fun W g q => q.cell 0)
          obtain ⟨XX, hXX⟩ : ∃ XX, XX = cRc x := ⟨_, rfl⟩
          have HXe := Lib.hid hXX
          have HLx : Hid (XX.length = 12) := Lib.hid (by rw [hXX]; rfl)
          rw [← hXX] at HL0 HW1 HSz HOx HB1s HCi
          obtain ⟨y, hy⟩ : ∃ y, y = x.id := ⟨_, rfl⟩
          rw [← hy] at HCi HStp hrg
          have HSz' : Hid ((Try.prog.info? 36).map (·.size) = some XX.toArray.size) := HSz
          have HTh : Hid ((wr.alloc (.cells (cRc zRc).toArray 36)).there wr.heap.size 0 XX.toArray.size) := Lib.hid (by show World.there _ _ 0 XX.length; rw [HLx.out]; exact HTh0.out)
          have j0 : (0 : Int) ≤ (k : Int) := by omega
          have j1 : (k : Int) < (n : Int) := by omega
          have HRgy := Lib.hid hrg
          clear KN HTh0 hXX hy hx hr hbl hrg HO HM HB
          go_upto_region 11 with (first
            | refine wpList_load_mid rfl 36 (.tmp 28) rfl b (off + k * 12) rfl XX _ HL0.out Try.underlying36 rfl HSz.out ?_
            | refine wpList_store_mid rfl 36 (.tmp 10) (.tmp 29) rfl wr.heap.size 0 XX.toArray rfl rfl HTh.out HSz'.out HOx.out ?_)
          refine fin (fun W => Blk W wr.heap.size 36 XX.toArray ∧ OwnX 12 cRc 36 W (w.heap.size + 1) u8 (remL (X.take k) zs) ∧ MF kU W w.heap.size (inU zs) ∧ Below w.heap.size w W) HW1.out ?_
          obtain ⟨g10, hg⟩ : ∃ g10, g10 = wr.heap.size := ⟨_, rfl⟩
          rw [← hg] at hws ⊢
          clear HW1 HTh HL0 hg
          rintro W ⟨kx, ho, hm, hb⟩
          have hcell : W.cell? ⟨g10, 0, none⟩ = some (.int .i64 y) := HCi.out _ _ kx
          have hlook : (Instr.lookup 71 (.map (some w.heap.size)) (.int .i64 y) true).run Try.prog W = .ok (.tuple #[.agg #[], .bool (decide (y ∈ zs))]) W := by
            have := hm.look HRgy.out
            rw [inU_some] at this
            exact this
          have HK : Hid (∀ W', Below W.heap.size W W' → Blk W' g10 36 XX.toArray ∧ OwnX 12 cRc 36 W' (w.heap.size + 1) u8 (remL (X.take k) zs) ∧ MF kU W' w.heap.size (inU zs) ∧ Below w.heap.size w W') := Lib.hid (fun W' q => ⟨kx.keep q, ho.keep q, hm.keep q, bthen hb q⟩)
          have hgl := kx.lt
          clear kx ho hm hb
          obtain ⟨bb, hbb⟩ : ∃ bb, bb = decide (y ∈ zs) := ⟨_, rfl⟩
          rw [← hbb] at hlook
          have HBb := Lib.hid hbb
          clear hbb
          go_upto_region 12 with fail
          refine fin (fun W' => Blk W' g10 36 XX.toArray ∧ OwnX 12 cRc 36 W' (w.heap.size + 1) u8 (remL (X.take k) zs) ∧ MF kU W' w.heap.size (inU zs) ∧ Below w.heap.size w W') (HK.out _ (alloc_below _ _)) ?_
          clear HK hlook hcell hgl
          rintro W2 ⟨kx, ho, hm, hb⟩
          have KX := Lib.hid kx
          have HO := Lib.hid ho
          have HM := Lib.hid hm
          have HB := Lib.hid hb
          have hsW : w.heap.size + 1 ≤ W2.heap.size := hm.lt
          clear kx ho hm hb
          cases bb
          · have hne : ¬ y ∈ zs := of_decide_eq_false HBb.out.symm
            rw [if_neg hne] at HStp
            have hpl : (remL (X.take k) zs).length ≤ 2000 := by
              have q1 := List.length_filter_le (fun r : Rc => !decide (r.id ∈ zs)) (X.take k)
              rw [List.length_take] at q1
              unfold remL
              omega
            clear HBb hne
            go_wp2_with (first
              | refine wpList_load_mid rfl 36 (.tmp 10) rfl g10 0 rfl XX _ (blk_whole KX.out) Try.underlying36 rfl HSz.out ?_
              | refine wpList_bsR1 rfl 46 36 (.tmp 40) rfl XX rfl HB1s.out ?_
              | (at_builtin; refine wpList_pushX rfl (.tmp 39) (.tmp 41) 46 96 (.agg (cRc zRc).toArray) rfl Try.underlying46 zRc_info rfl (by decide) (by decide) cRc_len x (cRc_one x) rfl (HO.out.keep (alloc_below _ _)) W2.heap.size 1 rfl (by rw [← HXe.out]; exact blk_whole (Blk.new W2 _ _)) hpl (Nat.le_trans hsW (by simp)) ?_))
            intro v' W3 k1 k2 k3
            have K : Hid (OwnX 12 cRc 36 W3 (w.heap.size + 1) v' (remL (X.take (k + 1)) zs) ∧ MF kU W3 w.heap.size (inU zs) ∧ Below w.heap.size w W3) := Lib.hid (by
              have hal : Below W2.heap.size W2 (W2.alloc (.cells XX.toArray 36)) := alloc_below _ _
              have q := HM.out.keep hal
              exact ⟨by rw [HStp.out]; exact k1, q.same (k2.block _ q.lt (fun e => by have := (HO.out.lt _ e.symm).1; omega)), grown_below2 (bthen HB.out hal) k2 (fun b e => by have := (HO.out.lt b e).1; omega)⟩)
            clear k1 k2 k3 HO HM HB KX
            go_wp2
            go_roundw
            case rel => exact ⟨k + 1, by go_num, by omega, K.out.1, K.out.2.1, K.out.2.2⟩
            case measure => simp [ivl] <;> omega
          · have hin : y ∈ zs := of_decide_eq_true HBb.out.symm
            rw [if_pos hin, List.append_nil] at HStp
            clear HBb hin
            go_wp2
            go_roundw
            case rel => exact ⟨k + 1, by go_num, by omega, by rw [HStp.out]; exact HO.out, HM.out, HB.out⟩
            case measure => simp [ivl] <;> omega
        · obtain rfl : k = n := by omega
          have j2 : ¬ (k : Int) < (k : Int) := by omega
          have HOz : Hid (OwnX 12 cRc 36 wr w.heap.size u8 (remL X zs)) := Lib.hid (by
            have q := HO.out
            rw [List.take_of_length_le (by rw [HLn.out]; exact Nat.le_refl _)] at q
            exact q.low (by omega))
          go_wp2
          go_ret
          exact ⟨u8, rfl, HOz.out, HB.out⟩
section
variable {α : Type} {k : Nat} {c : α → List Value} {t : TypeId} {w w' : World} {base : Nat} {v : Value} {X : List α}
theorem wpList_pushY {ops : Array Oper} {rest : List Oper} {op : Oper} {a : Go.Act} {Q : Exit → Go.Act → World → Prop} (hgd : op.guard = none) (ts tb : Operand) (tl : TypeId) (by_ : Nat) (z : Value)
    (ho : op.op = .call { callee := .builtin .append, args := #[ts, tb], argTypes := #[tl, tl] }) (hu : Try.prog.underlying tl = some (.slice t))
    (hinfo : (Try.prog.info? t).map (fun i => (i.zero, i.size, i.bytes)) = some (some z, k, by_)) (hzs : z.cells.size = k) (hk : 0 < k) (hc : ∀ x, (c x).length = k) (x : α) (hone : ∀ u ∈ c x, u.oneCell' = true)
    (hs : a.eval ts = v) (hown : OwnX k c t w base v X) (gb : Nat) (cap : Nat) (hx : a.eval tb = .slice (some ⟨gb, 0, none⟩) 1 cap) (hb : w.rangeAt gb 0 (c x)) (hbytes : (X.length + 1) * by_ ≤ 140737488355328) (hX : X.length + 1 ≤ maxLen) (hbs : base ≤ w.heap.size)
    (h : ∀ v' w', OwnX k c t w' base v' (X ++ [x]) → w.grownBy w' v.ownBlock → (v'.ownBlock = v.ownBlock ∨ v'.ownBlock = some w.heap.size) → wpList Try.prog ops Q rest (a.put op.dst v') w') : wpList Try.prog ops Q (op :: rest) a w := by
  obtain ⟨i0, hi0, hz0, hz1, hz2⟩ := info_parts hinfo
  refine wpList_append_own_at w hgd ts tb tl ho base t i0 z k by_ hu hi0 hz0 hz1 hz2 hzs hk v X.length (X.flatMap c) hs hown ⟨gb, 0, none⟩ 1 cap (c x) hx (by rw [hc x, Nat.one_mul]) (fun j u hj => by
    have := hb j u hj
    rw [Addr.add_lit]
    exact this) hone hX hbytes hbs ?_
  intro v' w' h1 h2 _ h4
  refine h v' w' ?_ h2 h4
  unfold OwnX
  rw [List.length_append, List.flatMap_append]
  simpa using h1
end
theorem bs_rf1 (x : Rc) (W : World) : (Instr.buildSlice 44 1 #[(0, .agg (cRc x).toArray)]).run Try.prog W = .ok (.slice (some ⟨W.heap.size, 0, none⟩) 1 1) (W.alloc (.cells (cRc x).toArray 40)) := by kernel_rfl
theorem rf_size (x : Rc) : (Try.prog.info? 40).map (·.size) = some (cRc x).length := by
  rw [cRc_len]; kernel_rfl
theorem rc_cells {W : World} {g : Nat} {t : TypeId} {x : Rc} (k : Blk W g t (cRc x).toArray) :
    W.cell? ⟨g, 0, none⟩ = some (.int .i64 x.id) ∧ W.cell? ⟨g, 1, none⟩ = some (.int .i64 x.ms) ∧ W.cell? ⟨g, 2, none⟩ = some (.int .i64 x.pp) ∧ W.cell? ⟨g, 3, none⟩ = some (.int .i64 x.mt) ∧ W.cell? ⟨g, 4, none⟩ = some (.bool x.cl) ∧ W.cell? ⟨g, 5, none⟩ = some (.int .i64 x.ly) ∧
    W.cell? ⟨g, 6, none⟩ = some (.int .i64 x.x0) ∧ W.cell? ⟨g, 7, none⟩ = some (.int .i64 x.x1) ∧ W.cell? ⟨g, 8, none⟩ = some (.int .i64 x.x2) ∧ W.cell? ⟨g, 9, none⟩ = some (.int .i64 x.x3) ∧ W.cell? ⟨g, 10, none⟩ = some (.int .i64 x.x4) ∧ W.cell? ⟨g, 11, none⟩ = some (.int .i64 x.x5) :=
  ⟨k.cell 0, k.cell 1, k.cell 2, k.cell 3, k.cell 4, k.cell 5, k.cell 6, k.cell 7, k.cell 8, k.cell 9, k.cell 10, k.cell 11⟩
set_option maxHeartbeats 8000000 in
set_option maxRecDepth 100000 in
theorem gof_any (av : Option Addr) (n cap : Nat) (X : List Rc) (w : World) (row : RcRow w av n X) (hn : n * 96 ≤ 140737488355328) :
    Calls Try.prog 9 #[.slice av n cap] w fun e w' => ∃ v, e = .returned v ∧ OwnX 12 cRc 40 w' w.heap.size v X ∧ Below w.heap.size w w' := by
  have hbig := row.2.1
  have HLn := Lib.hid row.1
  have HRow := Lib.hid row
  clear row
  go_enter Try.func9, Try.ntmps9
  go_wp2
  go_loopw [3, 4, 5] (fun v3 v4 _ wr => ∃ j : Nat, v4 = .int .i64 j ∧ j ≤ n ∧ OwnX 12 cRc 40 wr w.heap.size v3 (X.take j) ∧ Below w.heap.size w wr) (fun _ v4 _ _ => n - (ivl v4).toNat)
  case atStart => exact ⟨0, rfl, by omega, OwnX.nil _ _ _ _ _, Below.refl _ _⟩
  case round =>
    obtain ⟨j, rfl, hj, ho, hb⟩ := hrel
    have HO := Lib.hid ho
    have HB := Lib.hid hb
    clear ho hb
    by_cases hlt : j < n
    · obtain ⟨b, off, x, rfl, hbl, hx, hr⟩ := HRow.out.at_ hlt
      have HTk : Hid (X.take (j + 1) = X.take j ++ [x]) := Lib.hid (by rw [List.take_add_one, hx]; rfl)
      have hpl : (X.take j).length = j := by rw [List.length_take, HLn.out]; omega
      have HLt : Hid (((X.take j).length + 1) * 96 ≤ 140737488355328 ∧ (X.take j).length + 1 ≤ maxLen) := Lib.hid (by rw [hpl]; unfold maxLen; omega)
      have HL0 : Hid (wr.rangeAt b (off + j * 12) (cRc x)) := Lib.hid (range_same hr (HB.out.block b hbl))
      have KN := Blk.new wr 36 (cRc zRc).toArray
      have HW1 : Hid (Blk ((wr.alloc (.cells (cRc zRc).toArray 36)).setCells wr.heap.size 0 (cRc x)) wr.heap.size 36 (cRc x).toArray ∧ OwnX 12 cRc 40 ((wr.alloc (.cells (cRc zRc).toArray 36)).setCells wr.heap.size 0 (cRc x)) w.heap.size u3 (X.take j) ∧ Below w.heap.size w ((wr.alloc (.cells (cRc zRc).toArray 36)).setCells wr.heap.size 0 (cRc x))) := Lib.hid (by
        have hbel : Below wr.heap.size wr ((wr.alloc (.cells (cRc zRc).toArray 36)).setCells wr.heap.size 0 (cRc x)) := below_setCells _ (alloc_below _ _) (Nat.le_refl _)
        refine ⟨?_, HO.out.keep hbel, bthen HB.out hbel⟩
        have := blk_setCells (cRc x) (o := 0) KN (Nat.le_refl 12)
        rw [splice_rc] at this
        exact this)
      have HTh0 : Hid ((wr.alloc (.cells (cRc zRc).toArray 36)).there wr.heap.size 0 12) := Lib.hid (blk_there KN (Nat.le_refl 12))
      have HSz := Lib.hid (rc_size x)
      have HOx := Lib.hid (rc_all x)
      have HCs : Hid (∀ W g, Blk W g 36 (cRc x).toArray → W.cell? ⟨g, 0, none⟩ = some (.int .i64 x.id) ∧ W.cell? ⟨g, 1, none⟩ = some (.int .i64 x.ms) ∧ W.cell? ⟨g, 2, none⟩ = some (.int .i64 x.pp) ∧ W.cell? ⟨g, 3, none⟩ = some (.int .i64 x.mt) ∧ W.cell? ⟨g, 4, none⟩ = some (.bool x.cl) ∧ W.cell? ⟨g, 5, none⟩ = some (.int .i64 x.ly) ∧
    W.cell? ⟨g, 6, none⟩ = some (.int .i64 x.x0) ∧ W.cell? ⟨g, 7, none⟩ = some (.int .i64 x.x1) ∧ W.cell? ⟨g, 8, none⟩ = some (.int .i64 x.x2) ∧ W.cell? ⟨g, 9, none⟩ = some (.int .i64 x.x3) ∧ W.cell? ⟨g, 10, none⟩ = some (.int .i64 x.x4) ∧ W.cell? ⟨g, 11, none⟩ = some (.int .i64 x.x5)) := Lib.hid (fun W g k => rc_cells k)
      obtain ⟨XX, hXX⟩ : ∃ XX, XX = cRc x := ⟨_, rfl⟩
      have HLx : Hid (XX.length = 12) := Lib.hid (by rw [hXX]; rfl)
      rw [← hXX] at HL0 HW1 HSz HOx HCs
      have HSz' : Hid ((Try.prog.info? 36).map (·.size) = some XX.toArray.size) := HSz
      have HTh : Hid ((wr.alloc (.cells (cRc zRc).toArray 36)).there wr.heap.size 0 XX.toArray.size) := Lib.hid (by show World.there _ _ 0 XX.length; rw [HLx.out]; exact HTh0.out)
      have j0 : (0 : Int) ≤ (j : Int) := by omega
      have j1 : (j : Int) < (n : Int) := by omega
      clear KN HTh0 hXX hx hr hbl HO HB
      go_upto_region 6 with (first
        | refine wpList_load_mid rfl 36 (.tmp 14) rfl b (off + j * 12) rfl XX _ HL0.out Try.underlying36 rfl HSz.out ?_
        | refine wpList_store_mid rfl 36 (.tmp 5) (.tmp 15) rfl wr.heap.size 0 XX.toArray rfl rfl HTh.out HSz'.out HOx.out ?_)
      refine fin (fun W => Blk W wr.heap.size 36 XX.toArray ∧ OwnX 12 cRc 40 W w.heap.size u3 (X.take j) ∧ Below w.heap.size w W) HW1.out ?_
      obtain ⟨g5, hg⟩ : ∃ g5, g5 = wr.heap.size := ⟨_, rfl⟩
      rw [← hg]
      clear HW1 HTh HL0 hg
      rintro W ⟨kx, ho, hb⟩
      obtain ⟨c0, c1, c2, c3, c4, c5, c6, c7, c8, c9, c10, c11⟩ := HCs.out _ _ kx
      have HO := Lib.hid ho
      have HB := Lib.hid hb
      have hbs := bs_rf1 x
      unfold cRc at hbs
      have hgl := kx.lt
      have hws : Hid (w.heap.size ≤ W.heap.size) := Lib.hid hb.size
      clear kx ho hb HCs
      go_wp2_with (at_builtin; refine wpList_pushY rfl (.tmp 16) (.tmp 32) 44 96 (.agg (cRc zRc).toArray) rfl Try.underlying44 zRf_info rfl (by decide) cRc_len x (cRc_one x) rfl (HO.out.keep (alloc_below _ _)) W.heap.size 1 rfl (blk_whole (X := cRc x) (Blk.new W _ _)) HLt.out.1 HLt.out.2 (Nat.le_trans hws.out (by simp)) ?_)
      intro v' W3 k1 k2 k3
      have K : Hid (OwnX 12 cRc 40 W3 w.heap.size v' (X.take (j + 1)) ∧ Below w.heap.size w W3) := Lib.hid ⟨by rw [HTk.out]; exact k1, grown_below2 (bthen HB.out (alloc_below _ _)) k2 (fun b e => (HO.out.lt b e).1)⟩
      clear k1 k2 k3 HO HB c0 c1 c2 c3 c4 c5 c6 c7 c8 c9 c10 c11 hbs
      go_wp2
      go_roundw
      case rel => exact ⟨j + 1, by go_num, by omega, K.out.1, K.out.2⟩
      case measure => simp [ivl] <;> omega
    · obtain rfl : j = n := by omega
      have j2 : ¬ (j : Int) < (j : Int) := by omega
      have HOz : Hid (OwnX 12 cRc 40 wr w.heap.size u3 X) := Lib.hid (by
        have q := HO.out
        rw [List.take_of_length_le (by rw [HLn.out]; exact Nat.le_refl _)] at q
        exact q)
      go_wp2
      go_ret
      exact ⟨u3, rfl, HOz.out, HB.out⟩
def riseB (X : List Rc) : Bool := decide (X.Pairwise (fun a b => a.id < b.id))
theorem riseB_iff (X : List Rc) : riseB X = true ↔ Rise X := by unfold riseB Rise; exact decide_eq_true_iff
def RiseK (X : List Rc) (k : Nat) : Prop := ∀ (j : Nat) (a b : Rc), j + 1 < k → X[j]? = some a → X[j + 1]? = some b → a.id < b.id
theorem riseK_rise {X : List Rc} (h : RiseK X X.length) : Rise X := by
  have key : ∀ d i a b, X[i]? = some a → X[i + d + 1]? = some b → a.id < b.id := by
    intro d
    induction d with
    | zero => intro i a b ha hb; exact h i a b (List.getElem?_eq_some_iff.1 hb).1 ha hb
    | succ d ih =>
      intro i a b ha hb
      have hl := (List.getElem?_eq_some_iff.1 hb).1
      have hm : X[i + d + 1]? = some (X[i + d + 1]'(by omega)) := List.getElem?_eq_getElem (by omega)
      have h1 := ih i a _ ha hm
      have h2 := h (i + d + 1) _ b (by omega) hm (by rw [← hb]; congr 1)
      omega
  refine List.pairwise_iff_getElem.2 fun i j hi hj hij => ?_
  refine key (j - i - 1) i _ _ (List.getElem?_eq_getElem hi) ?_
  rw [show i + (j - i - 1) + 1 = j by omega]
  exact List.getElem?_eq_getElem hj
theorem rise_next {X : List Rc} (h : Rise X) {j : Nat} {a b : Rc} (ha : X[j]? = some a) (hb : X[j + 1]? = some b) : a.id < b.id := by
  obtain ⟨h1, e1⟩ := List.getElem?_eq_some_iff.1 ha
  obtain ⟨h2, e2⟩ := List.getElem?_eq_some_iff.1 hb
  have := List.pairwise_iff_getElem.1 h j (j + 1) h1 h2 (Nat.lt_succ_self j)
  rw [e1, e2] at this
  exact this
set_option maxHeartbeats 8000000 in
set_option maxRecDepth 100000 in
theorem grises_any (av : Option Addr) (n cap : Nat) (X : List Rc) (w : World) (row : RcRow w av n X) :
    Calls Try.prog 11 #[.slice av n cap] w fun e w' => e = .returned (.bool (riseB X)) ∧ Below w.heap.size w w' := by
  have hbig := row.2.1
  have HLn := Lib.hid row.1
  have HRow := Lib.hid row
  clear row
  go_enter Try.func11, Try.ntmps11
  go_wp2
  go_loopw [3] (fun v3 wr => ∃ j : Nat, v3 = .int .i64 ((j + 1 : Nat) : Int) ∧ (j + 1 ≤ n ∨ j = 0) ∧ RiseK X (j + 1) ∧ Below w.heap.size w wr) (fun v3 _ => n - (ivl v3).toNat)
  case atStart => exact ⟨0, rfl, Or.inr rfl, (fun j a b h => by omega), Below.refl _ _⟩
  case round =>
    obtain ⟨j, rfl, hj, hk, hb⟩ := hrel
    have HK := Lib.hid hk
    have HB := Lib.hid hb
    clear hk hb
    by_cases hlt : j + 1 < n
    · obtain ⟨b, off, x, rfl, hbl, hx, hr⟩ := HRow.out.at_ (show j + 1 < n by omega)
      obtain ⟨b', off', y, e', hbl', hy, hr'⟩ := HRow.out.at_ (show j < n by omega)
      injection e' with e'; injection e' with e1 e2; subst e1 e2
      have HStep : Hid (y.id < x.id → RiseK X (j + 1 + 1)) := Lib.hid (fun hyx i a c hi ha hc => by
        by_cases q : i + 1 < j + 1
        · exact HK.out i a c q ha hc
        · have ei : i = j := by omega
          subst ei
          rw [hx] at hc; rw [hy] at ha
          injection hc with hc; injection ha with ha
          rw [← hc, ← ha]; exact hyx)
      have HNo : Hid (¬ y.id < x.id → ¬ Rise X) := Lib.hid (fun q h => q (rise_next h hy hx))
      have HS : Hid (∀ W, Below wr.heap.size wr W → W.cell? ⟨b, off + (j + 1) * 12, none⟩ = some (.int .i64 x.id) ∧ W.cell? ⟨b, off + j * 12, none⟩ = some (.int .i64 y.id)) := Lib.hid (fun W hb => by
        have e1 := range_same hr ((bthen HB.out hb).block b hbl)
        have e2 := range_same hr' ((bthen HB.out hb).block b hbl)
        exact ⟨e1 0 _ rfl, e2 0 _ rfl⟩)
      have hw1 : IntKind.i64.wrap (((j + 1 : Nat) : Int) - 1) = (j : Int) := by rw [show ((j + 1 : Nat) : Int) - 1 = (j : Int) by omega]; exact IntWalk.i64_in _ (by omega)
      obtain ⟨xi, hxi⟩ : ∃ xi, xi = x.id := ⟨_, rfl⟩
      obtain ⟨yi, hyi⟩ : ∃ yi, yi = y.id := ⟨_, rfl⟩
      rw [← hxi, ← hyi] at HStep HNo HS
      obtain ⟨p, hp⟩ : ∃ p, p = j + 1 := ⟨_, rfl⟩
      rw [← hp] at hw1 HS HStep hlt hj ⊢
      have p0 : (0 : Int) ≤ (p : Int) := by omega
      have p1 : (p : Int) < (n : Int) := by omega
      have q0 : (0 : Int) ≤ (j : Int) := by omega
      have q1 : (j : Int) < (n : Int) := by omega
      have HP := Lib.hid hp
      clear hxi hyi hp hx hy hr hr' hbl hbl' HK
      go_wp2_with fail
      refine wp_region_held_drew (S := fun w' => w'.cell? ⟨b, off + p * 12, none⟩ = some (.int .i64 xi) ∧ w'.cell? ⟨b, off + j * 12, none⟩ = some (.int .i64 yi)) (by kernel_rfl) (HS.out _ (bdrew (Below.refl _ _))) (fun hHeld => ?_)
      refine tk 0 hHeld ?_
      refine tk 1 hHeld ?_
      refine tk 2 hHeld ?_
      refine tk 3 hHeld ?_
      refine tk 4 hHeld ?_
      refine tk 5 hHeld ?_
      refine tk 6 hHeld ?_
      refine tk 7 hHeld ?_
      refine tk 8 hHeld ?_
      refine tk 9 hHeld ?_
      refine tk 10 hHeld ?_
      refine tk 11 hHeld ?_
      refine wpAnyH_done (by kernel_rfl) ?_ _
      clear hHeld
      refine fin (fun W => Below wr.heap.size wr W) (bdrew (Below.refl _ _)) ?_
      clear HS
      rintro W hb
      have HB2 := Lib.hid (bthen HB.out hb)
      clear hb HB
      by_cases hle : xi ≤ yi
      · have HN := Lib.hid (HNo.out (by omega))
        go_wp2
        go_ret
        have HF : riseB X = false := by
          cases e : riseB X with
          | false => rfl
          | true => exact absurd ((riseB_iff X).1 e) HN.out
        exact ⟨by rw [HF]; rfl, HB2.out⟩
      · have HN := Lib.hid (HStep.out (by omega))
        go_wp2
        go_roundw
        case rel => exact ⟨p, by go_num, by omega, HN.out, HB2.out⟩
        case measure => simp [ivl] <;> omega
    · have j2 : ¬ ((j + 1 : Nat) : Int) < (n : Int) := by omega
      have HR : Hid (Rise X) := Lib.hid (riseK_rise (fun i a b hi ha hb => HK.out i a b (by rw [HLn.out] at hi; omega) ha hb))
      go_wp2
      go_ret
      exact ⟨by rw [(riseB_iff X).2 HR.out]; rfl, HB.out⟩
set_option maxHeartbeats 8000000 in
set_option maxRecDepth 100000 in
theorem gsame_yes (a1 : Option Addr) (c1 : Nat) (a2 : Option Addr) (c2 n : Nat) (X : List Rc) (w : World) (r1 : RcRow w a1 n X) (r2 : RcRow w a2 n X) :
    Calls Try.prog 13 #[.slice a1 n c1, .slice a2 n c2] w fun e w' => e = .returned (.bool true) ∧ Below w.heap.size w w' := by
  have hbig := r1.2.1
  have HR1 := Lib.hid r1
  have HR2 := Lib.hid r2
  have g1 : ((n : Int) != (n : Int)) = false := by simp
  clear r1 r2
  go_enter Try.func13, Try.ntmps13
  go_wp2
  go_loopw [5] (fun v5 wr => ∃ j : Nat, v5 = .int .i64 j ∧ j ≤ n ∧ Below w.heap.size w wr) (fun v5 _ => n - (ivl v5).toNat)
  case atStart => exact ⟨0, rfl, by omega, Below.refl _ _⟩
  case round =>
    obtain ⟨j, rfl, hj, hb⟩ := hrel
    have HB := Lib.hid hb
    clear hb
    by_cases hlt : j < n
    · obtain ⟨b, off, x, rfl, hbl, hx, hr⟩ := HR1.out.at_ hlt
      obtain ⟨b', off', y, rfl, hbl', hy, hr'⟩ := HR2.out.at_ hlt
      obtain rfl : y = x := by rw [hx] at hy; injection hy with e; exact e.symm
      have HS : Hid (∀ W, Below wr.heap.size wr W → W.rangeAt b (off + j * 12) (cRc y) ∧ W.rangeAt b' (off' + j * 12) (cRc y)) := Lib.hid (fun W hb => ⟨range_same hr ((bthen HB.out hb).block b hbl), range_same hr' ((bthen HB.out hb).block b' hbl')⟩)
      have HEq : ∀ w, (Op.equalIn 10000 40 (.agg (cRc y).toArray) (.agg (cRc y).toArray)).run Try.prog w = .ok true w := fun w => by rw [eqRcG, eqRc_self]
      have HSz := Lib.hid (rf_size y)
      obtain ⟨XX, hXX⟩ : ∃ XX, XX = cRc y := ⟨_, rfl⟩
      rw [← hXX] at HS HEq HSz
      have p0 : (0 : Int) ≤ (j : Int) := by omega
      have p1 : (j : Int) < (n : Int) := by omega
      clear hXX hx hy hr hr' hbl hbl'
      go_wp2_with fail
      refine wp_region_held_drew (S := fun w' => w'.rangeAt b (off + j * 12) XX ∧ w'.rangeAt b' (off' + j * 12) XX) (by kernel_rfl) (HS.out _ (bdrew (Below.refl _ _))) (fun hHeld => ?_)
      refine tk 0 hHeld ?_
      refine tk 1 hHeld ?_
      refine tk 2 hHeld ?_
      refine tkl 3 rfl (yieldsIf_load_mid (by rfl) _ _ rfl _ _ rfl _ _ (fun _ h => h.1) Try.underlying40 rfl HSz.out) hHeld ?_
      refine tk 4 hHeld ?_
      refine tk 5 hHeld ?_
      refine tk 6 hHeld ?_
      refine tkl 7 rfl (yieldsIf_load_mid (by rfl) _ _ rfl _ _ rfl _ _ (fun _ h => h.2) Try.underlying40 rfl HSz.out) hHeld ?_
      refine tk 8 hHeld ?_
      refine wpAnyH_done (by kernel_rfl) ?_ _
      clear hHeld
      refine fin (fun W => Below wr.heap.size wr W) (bdrew (Below.refl _ _)) ?_
      clear HS
      rintro W hb
      have HB2 := Lib.hid (bthen HB.out hb)
      clear hb HB
      go_wp2
      go_roundw
      case rel => exact ⟨j + 1, by go_num, by omega, HB2.out⟩
      case measure => simp [ivl] <;> omega
    · have j2 : ¬ (j : Int) < (n : Int) := by omega
      go_wp2
      go_ret
      exact ⟨rfl, HB.out⟩
end Go.Proofs.Ytffbehcbokmpkaa
