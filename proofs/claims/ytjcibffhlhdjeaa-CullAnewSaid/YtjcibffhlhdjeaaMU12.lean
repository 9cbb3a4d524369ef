/-
  6 texts in one file, each with its own heading.
-/
import Derived.Test.YtjcibffhlhdjeaaMU11
import Derived.Test.YtjcibffhlhdjeaaMU06
import Derived.Test.YtjcibffhlhdjeaaMU04
import Derived.Test.YtjcibffhlhdjeaaMU03
/-
  What the reference's Remove and Insert of layer 12 answer.
-/
namespace Go.Proofs.Ytjcibffhlhdjeaa
open Go.RowKit

set_option maxHeartbeats 8000000 in
set_option maxRecDepth 100000 in
theorem grem_any (av : Option Addr) (n cap : Nat) (X : List Rc) (ai : Option Addr) (ni ci : Nat) (zs : List Int) (w : World) (row : RcRow w av n X) (ri : Row w ai ni zs) (hn : n ≤ 2000) :
    Calls Try.prog 47 #[.slice av n cap, .slice ai ni ci] w fun e w' => ∃ v, e = .returned v ∧ OwnX 12 cRc 50 w' w.heap.size v (remL X zs) ∧ Below w.heap.size w w' := by
  have HLn := Lib.hid row.1
  have HRi := Lib.hid ri
  have HRow := Lib.hid row
  clear row ri
  go_enter Try.func47, Try.ntmps47
  go_wp2
  go_loopw [5, 6, 7] (fun v5 v6 _ wr => ∃ k : Nat, v6 = .int .i64 k ∧ k ≤ n ∧ OwnX 12 cRc 50 wr w.heap.size v5 (remL (X.take k) zs) ∧ Below w.heap.size w wr) (fun _ v6 _ _ => n - (ivl v6).toNat)
  case atStart => exact ⟨0, rfl, by omega, OwnX.nil _ _ _ _ _, Below.refl _ _⟩
  case round =>
    obtain ⟨k, rfl, hk, ho, hb⟩ := hrel
    have HO := Lib.hid ho
    have HB := Lib.hid hb
    have hws : Hid (w.heap.size ≤ wr.heap.size) := Lib.hid hb.size
    clear ho hb
    by_cases hlt2 : k < n
    · obtain ⟨b, off, x, rfl, hbl, hx, hr⟩ := HRow.out.at_ hlt2
      have HStp := Lib.hid (rem_step (zs := zs) hx)
      have HL0 : Hid (wr.rangeAt b (off + k * 12) (cRc x)) := Lib.hid (range_same hr (HB.out.block b hbl))
      have cx : wr.cell? ⟨b, off + k * 12, none⟩ = some (.int .i64 x.id) := HL0.out 0 _ rfl
      have HHas := Lib.hid (plhas_any ai ni ci zs x.id wr (row_keep HRi.out HB.out))
      have HSz := Lib.hid (rf_size x)
      have HB1s : Hid (∀ W, (Instr.buildSlice 29 1 #[(0, .agg (cRc x).toArray)]).run Try.prog W = .ok (.slice (some ⟨W.heap.size, 0, none⟩) 1 1) (W.alloc (.cells (cRc x).toArray 50))) := Lib.hid (bs_rf1 x)
      obtain ⟨XX, hXX⟩ : ∃ XX, XX = cRc x := ⟨_, rfl⟩
      have HXe := Lib.hid hXX
      rw [← hXX] at HL0 HSz HB1s
      obtain ⟨y, hy⟩ : ∃ y, y = x.id := ⟨_, rfl⟩
      rw [← hy] at cx HStp HHas
      obtain ⟨bb, hbb⟩ : ∃ bb, bb = decide (y ∈ zs) := ⟨_, rfl⟩
      rw [← hbb] at HHas
      have HBb := Lib.hid hbb
      have j0 : (0 : Int) ≤ (k : Int) := by omega
      have j1 : (k : Int) < (n : Int) := by omega
      clear hXX hy hx hr hbl hbb
      go_wp2_with fail
      refine HHas.out.mono ?_
      rintro e w1 ⟨rfl, rfl⟩
      clear HHas cx
      cases bb
      · have hne : ¬ y ∈ zs := of_decide_eq_false HBb.out.symm
        rw [if_neg hne] at HStp
        have hpl : (remL (X.take k) zs).length ≤ 2000 := by
          have q1 := List.length_filter_le (fun r : Rc => !decide (r.id ∈ zs)) (X.take k)
          rw [List.length_take] at q1
          unfold remL
          omega
        clear HBb hne
        go_wp2_with (first
          | refine wpList_load_mid rfl 50 (.tmp 26) rfl b (off + k * 12) rfl XX _ HL0.out Try.underlying50 rfl HSz.out ?_
          | refine wpList_bsR1 rfl 29 50 (.tmp 27) rfl XX rfl HB1s.out ?_
          | (at_builtin; refine wpList_pushX rfl (.tmp 23) (.tmp 28) 29 96 (.agg (cRc zRc).toArray) rfl Try.underlying29 zRf_info rfl (by decide) (by decide) cRc_len x (cRc_one x) rfl (HO.out.keep (alloc_below _ _)) wr.heap.size 1 rfl (by rw [← HXe.out]; exact blk_whole (Blk.new wr _ _)) hpl (Nat.le_trans hws.out (by simp)) ?_))
        intro v' W3 k1 k2 k3
        have K : Hid (OwnX 12 cRc 50 W3 w.heap.size v' (remL (X.take (k + 1)) zs) ∧ Below w.heap.size w W3) := Lib.hid ⟨by rw [HStp.out]; exact k1, grown_below2 (bthen HB.out (alloc_below _ _)) k2 (fun b e => (HO.out.lt b e).1)⟩
        clear k1 k2 k3 HO HB
        go_wp2
        go_roundw
        case rel => exact ⟨k + 1, by go_num, by omega, K.out.1, K.out.2⟩
        case measure => simp [ivl] <;> omega
      · have hin : y ∈ zs := of_decide_eq_true HBb.out.symm
        rw [if_pos hin, List.append_nil] at HStp
        clear HBb hin
        go_wp2
        go_roundw
        case rel => exact ⟨k + 1, by go_num, by omega, by rw [HStp.out]; exact HO.out, HB.out⟩
        case measure => simp [ivl] <;> omega
    · obtain rfl : k = n := by omega
      have j2 : ¬ (k : Int) < (k : Int) := by omega
      have HOz : Hid (OwnX 12 cRc 50 wr w.heap.size u5 (remL X zs)) := Lib.hid (by
        have q := HO.out
        rw [List.take_of_length_le (by rw [HLn.out]; exact Nat.le_refl _)] at q
        exact q)
      go_wp2
      go_ret
      exact ⟨u5, rfl, HOz.out, HB.out⟩
def gI (R : List Rc) (x : Rc) (p i : Nat) : List Rc := if i ≤ p then R.take i else R.take p ++ x :: (R.take i).drop p
theorem gI_low {R : List Rc} {x : Rc} {p i : Nat} (h : i ≤ p) : gI R x p i = R.take i := if_pos h
theorem gI_step {R : List Rc} {x r : Rc} {p i : Nat} (hr : R[i]? = some r) (h : p < i) : gI R x p (i + 1) = gI R x p i ++ [r] := by
  have hl := (List.getElem?_eq_some_iff.1 hr).1
  unfold gI
  rw [if_neg (by omega), if_neg (by omega), List.take_add_one, hr, List.drop_append_of_le_length (by rw [List.length_take]; omega)]
  simp
theorem gI_at {R : List Rc} {x r : Rc} {p : Nat} (hr : R[p]? = some r) : gI R x p (p + 1) = R.take p ++ [x] ++ [r] := by
  have hl := (List.getElem?_eq_some_iff.1 hr).1
  unfold gI
  rw [if_neg (by omega), List.take_add_one, hr, List.drop_append_of_le_length (by rw [List.length_take]; omega), List.drop_of_length_le (by rw [List.length_take]; omega)]
  simp
theorem ins_ok {L R : List Rc} {x : Rc} {p : Nat} (hL : Rise L) (hR : R = remL L [x.id]) (h1 : ∀ r ∈ R.take p, ¬ x.id < r.id) (h2 : ∀ r ∈ R.drop p, x.id < r.id) : Rise (R.take p ++ x :: R.drop p) ∧ ∀ k, look k (R.take p ++ x :: R.drop p) = (look k [x]).or (look k L) := by
  have hne : ∀ r ∈ R, r.id ≠ x.id := fun r hr => by
    rw [hR] at hr
    have := (List.mem_filter.1 hr).2
    simpa using this
  have hRr : Rise R := by rw [hR]; exact List.Pairwise.sublist List.filter_sublist hL
  have hs : Rise (R.take p ++ R.drop p) := by rw [List.take_append_drop]; exact hRr
  obtain ⟨a1, a2, a3⟩ := List.pairwise_append.1 hs
  have lt1 : ∀ r ∈ R.take p, r.id < x.id := fun r hr => by
    have q1 := h1 r hr
    have q2 := hne r (List.mem_of_mem_take hr)
    omega
  refine ⟨List.pairwise_append.2 ⟨a1, List.pairwise_cons.2 ⟨h2, a2⟩, fun a ha b hb => ?_⟩, fun k => ?_⟩
  · rcases List.mem_cons.1 hb with rfl | hb
    · exact lt1 a ha
    · exact a3 a ha b hb
  · rw [look_one, look_app, look_cons]
    by_cases hk : x.id = k
    · rw [if_pos hk, if_pos hk, look_none (fun r hr => by have := lt1 r hr; omega)]
      simp
    · rw [if_neg hk, if_neg hk, Option.none_or, ← look_app, List.take_append_drop, hR]
      unfold look remL
      rw [List.find?_filter]
      refine congrArg (fun f => List.find? f L) (funext fun r => ?_)
      by_cases e : r.id = k
      · simp [e]
        omega
      · simp [e]
theorem exists_place {y : Int} : ∀ {R : List Rc}, Rise R → ∃ p, p ≤ R.length ∧ (∀ r ∈ R.take p, ¬ y < r.id) ∧ ∀ r ∈ R.drop p, y < r.id
  | [], _ => ⟨0, Nat.le_refl _, (fun r h => by simp at h), (fun r h => by simp at h)⟩
  | a :: R, h => by
    obtain ⟨h1, h2⟩ := rise_cons.1 h
    by_cases c : y < a.id
    · refine ⟨0, Nat.zero_le _, (fun r h => by simp at h), fun r hr => ?_⟩
      rcases List.mem_cons.1 hr with rfl | hr
      · exact c
      · have := h1 r hr; omega
    · obtain ⟨p, q1, q2, q3⟩ := exists_place (y := y) h2
      refine ⟨p + 1, by rw [List.length_cons]; omega, fun r hr => ?_, fun r hr => ?_⟩
      · rw [List.take_succ_cons] at hr
        rcases List.mem_cons.1 hr with rfl | hr
        · exact c
        · exact q2 r hr
      · rw [List.drop_succ_cons] at hr
        exact q3 r hr
set_option maxHeartbeats 16000000 in
set_option maxRecDepth 100000 in
theorem gins_any (av : Option Addr) (n cap : Nat) (L : List Rc) (x : Rc) (w : World) (row : RcRow w av n L) (hL : Rise L) (hn : n ≤ 1000) :
    Calls Try.prog 45 #[.slice av n cap, .agg (cRc x).toArray] w fun e w' => ∃ v R, e = .returned v ∧ OwnX 12 cRc 50 w' w.heap.size v R ∧ R.length ≤ n + 1 ∧ Rise R ∧ (∀ k, look k R = (look k [x]).or (look k L)) ∧ Below w.heap.size w w' := by
  have HLn := Lib.hid row.1
  have HRow := Lib.hid row
  have HRise := Lib.hid hL
  have K3 := Lib.hid (Blk.new w 50 (cRc x).toArray)
  have HB0 : Hid (Below w.heap.size w (w.alloc (.cells (cRc x).toArray 50))) := Lib.hid (alloc_below _ _)
  have HCi : Hid (∀ W g, Blk W g 50 (cRc x).toArray → W.cell? ⟨g, 0, none⟩ = some (.int .i64 x.id)) := Lib.hid (fun W g q => q.cell 0)
  have HSx := Lib.hid (rf_size x)
  have HBx : Hid (∀ W, (Instr.buildSlice 29 1 #[(0, .agg (cRc x).toArray)]).run Try.prog W = .ok (.slice (some ⟨W.heap.size, 0, none⟩) 1 1) (W.alloc (.cells (cRc x).toArray 50))) := Lib.hid (bs_rf1 x)
  obtain ⟨X3, hX3⟩ : ∃ X3, X3 = cRc x := ⟨_, rfl⟩
  have HX3 := Lib.hid hX3
  rw [← hX3] at K3 HB0 HCi HSx HBx ⊢
  obtain ⟨y, hy⟩ : ∃ y, y = x.id := ⟨_, rfl⟩
  have HY := Lib.hid hy
  rw [← hy] at HCi
  clear row hL hX3 hy
  go_enter Try.func45, Try.ntmps45
  go_upto_region 1 with fail
  refine fin (fun W => Blk W w.heap.size 50 X3.toArray ∧ Below w.heap.size w W) ⟨K3.out, HB0.out⟩ ?_
  clear K3 HB0
  rintro W0 ⟨k3, hb0⟩
  have hc0 := HCi.out _ _ k3
  have HK3 := Lib.hid k3
  have HB0 := Lib.hid hb0
  have HRm : Hid (Calls Try.prog 47 #[.slice av n cap, .slice (some ⟨W0.heap.size, 0, none⟩) 1 1] (W0.alloc (.cells #[.int .i64 y] 46)) fun e w' => ∃ v, e = .returned v ∧ OwnX 12 cRc 50 w' (W0.alloc (.cells #[.int .i64 y] 46)).heap.size v (remL L [y]) ∧ Below (W0.alloc (.cells #[.int .i64 y] 46)).heap.size (W0.alloc (.cells #[.int .i64 y] 46)) w') := Lib.hid (by
    refine grem_any av n cap L (some ⟨W0.heap.size, 0, none⟩) 1 1 [y] _ (HRow.out.keep (bthen hb0 (alloc_below _ _))) ⟨rfl, by omega, Or.inr ⟨W0.heap.size, 0, rfl, fun i hi => ?_⟩⟩ (by omega)
    obtain rfl : i = 0 := by omega
    exact (Blk.new W0 46 #[.int .i64 y]).cell 0)
  have hbs1 : ∀ W, (Instr.buildSlice 30 1 #[(0, .int .i64 y)]).run Try.prog W = .ok (.slice (some ⟨W.heap.size, 0, none⟩) 1 1) (W.alloc (.cells #[.int .i64 y] 46)) := fun W => by kernel_rfl
  have hg0 := k3.lt
  clear k3 hb0
  go_wp2_with fail
  refine HRm.out.mono ?_
  rintro e w1 ⟨v, rfl, ho, hb⟩
  obtain ⟨R, hR⟩ : ∃ R, R = remL L [y] := ⟨_, rfl⟩
  rw [← hR] at ho
  obtain ⟨ar, cr, rfl, hcr, _, hrr⟩ := ho.row cRc_len
  have HRr := Lib.hid hrr
  have HRe := Lib.hid hR
  have hal : Below W0.heap.size W0 w1 := bthen (alloc_below _ _) hb
  have HK1 := Lib.hid (HK3.out.keep hal)
  have HB1 := Lib.hid (bthen HB0.out hal)
  have hRl : R.length ≤ n := by
    have q1 := List.length_filter_le (fun r : Rc => !decide (r.id ∈ [y])) L
    rw [HLn.out] at q1
    rw [hR]
    unfold remL
    exact q1
  have hbig2 : R.length ≤ 9223372036854775807 := by omega
  obtain ⟨m, hm⟩ : ∃ m, m = R.length := ⟨_, rfl⟩
  rw [← hm] at HRr hRl hbig2 ⊢
  have HM := Lib.hid hm
  have hws1 : Hid (w.heap.size + 1 ≤ w1.heap.size) := Lib.hid HK1.out.lt
  clear ho hb hR hrr hal HK3 HB0 HRm hm hc0 hg0 hbs1 hcr
  have HRrise : Hid (Rise R) := Lib.hid (by rw [HRe.out]; exact List.Pairwise.sublist List.filter_sublist HRise.out)
  obtain ⟨p, hp, hp1, hp2⟩ := exists_place (y := y) HRrise.out
  have HP1 := Lib.hid hp1
  have HP2 := Lib.hid hp2
  have hpm : p ≤ m := by rw [HM.out]; exact hp
  have HEnd : Hid (∀ W v, OwnX 12 cRc 50 W w1.heap.size v (R.take p ++ x :: R.drop p) → Below w1.heap.size w1 W → ∃ v' R', Ending.returned v = Ending.returned v' ∧ OwnX 12 cRc 50 W w.heap.size v' R' ∧ R'.length ≤ n + 1 ∧ Rise R' ∧ (∀ k, look k R' = (look k [x]).or (look k L)) ∧ Below w.heap.size w W) := Lib.hid (fun W v ho hb => by
    obtain ⟨q1, q2⟩ := ins_ok HRise.out (show R = remL L [x.id] by rw [← HY.out]; exact HRe.out) (by rw [← HY.out]; exact HP1.out) (by rw [← HY.out]; exact HP2.out)
    refine ⟨v, _, rfl, ho.low HB1.out.size, ?_, q1, q2, bthen HB1.out hb⟩
    have e := HM.out
    rw [List.length_append, List.length_cons, List.length_take, List.length_drop, Nat.min_eq_left hp]
    omega)
  clear hp1 hp2
  go_wp2
  go_loopw [6, 7, 8] (fun v6 v7 v8 wr => ∃ i : Nat, v8 = .int .i64 i ∧ i ≤ m ∧ v7 = .bool (decide (p < i)) ∧ OwnX 12 cRc 50 wr w1.heap.size v6 (gI R x p i) ∧ Blk wr w.heap.size 50 X3.toArray ∧ Below w1.heap.size w1 wr) (fun _ _ v8 _ => m - (ivl v8).toNat)
  case atStart => exact ⟨0, rfl, by omega, by simp, by rw [gI_low (Nat.zero_le _)]; exact OwnX.nil _ _ _ _ _, HK1.out, Below.refl _ _⟩
  case round =>
    obtain ⟨i, rfl, hi, rfl, ho, hk, hb⟩ := hrel
    have HO := Lib.hid ho
    have HKw := Lib.hid hk
    have HB := Lib.hid hb
    clear ho hk hb
    by_cases hlt : i < m
    · obtain ⟨b, off, r, har, hbl, hr, hrr⟩ := HRr.out.at_ hlt
      subst har
      have HSr : Hid (∀ W, Below wr.heap.size wr W → W.rangeAt b (off + i * 12) (cRc r)) := Lib.hid (fun W hb => range_same hrr ((bthen HB.out hb).block b hbl))
      have HS : Hid (∀ W, Below wr.heap.size wr W → W.cell? ⟨b, off + i * 12, none⟩ = some (.int .i64 r.id) ∧ W.cell? ⟨w.heap.size, 0, none⟩ = some (.int .i64 y)) := Lib.hid (fun W hb => ⟨HSr.out W hb 0 _ rfl, HCi.out _ _ (HKw.out.keep hb)⟩)
      have HSz := Lib.hid (rf_size r)
      have HB1s : Hid (∀ W, (Instr.buildSlice 29 1 #[(0, .agg (cRc r).toArray)]).run Try.prog W = .ok (.slice (some ⟨W.heap.size, 0, none⟩) 1 1) (W.alloc (.cells (cRc r).toArray 50))) := Lib.hid (bs_rf1 r)
      have HLow : Hid (i < p → gI R x p (i + 1) = gI R x p i ++ [r] ∧ ¬ y < r.id) := Lib.hid (fun q => ⟨by rw [gI_low (by omega), gI_low (by omega), List.take_add_one, hr]; rfl, by have := HP1.out r (List.mem_iff_getElem?.2 ⟨i, by rw [List.getElem?_take, if_pos q]; exact hr⟩); omega⟩)
      have HAt : Hid (i = p → gI R x p (i + 1) = (gI R x p i ++ [x]) ++ [r] ∧ y < r.id) := Lib.hid (fun q => by
        subst q
        refine ⟨by rw [gI_at hr, gI_low (Nat.le_refl _)], HP2.out r (List.mem_iff_getElem?.2 ⟨0, by rw [List.getElem?_drop]; simpa using hr⟩)⟩)
      have HHigh : Hid (p < i → gI R x p (i + 1) = gI R x p i ++ [r]) := Lib.hid (fun q => gI_step hr q)
      have hgl : (gI R x p i).length ≤ 1500 := by
        unfold gI
        by_cases q : i ≤ p
        · rw [if_pos q, List.length_take]; omega
        · rw [if_neg q, List.length_append, List.length_cons, List.length_drop, List.length_take, List.length_take]; omega
      obtain ⟨XX, hXX⟩ : ∃ XX, XX = cRc r := ⟨_, rfl⟩
      have HXe := Lib.hid hXX
      rw [← hXX] at HSr HSz HB1s
      obtain ⟨ri, hri⟩ : ∃ ri, ri = r.id := ⟨_, rfl⟩
      rw [← hri] at HS HLow HAt
      have p0 : (0 : Int) ≤ (i : Int) := by omega
      have p1 : (i : Int) < (m : Int) := by omega
      clear hXX hri hr hrr hbl
      rcases Nat.lt_trichotomy i p with hip | hip | hip
      · obtain ⟨e1, e2⟩ := HLow.out hip
        have HStep := Lib.hid e1
        have dn : decide (p < i) = false := decide_eq_false (by omega)
        have dn2 : decide (p < i + 1) = false := decide_eq_false (by omega)
        rw [dn]
        have hgl2 : (gI R x p i).length ≤ 2000 := by omega
        clear e1 HLow HAt HHigh
        go_wp2_with fail
        refine wp_region_held_drew (S := fun w' => w'.cell? ⟨b, off + i * 12, none⟩ = some (.int .i64 ri) ∧ w'.cell? ⟨w.heap.size, 0, none⟩ = some (.int .i64 y)) (by kernel_rfl) (HS.out _ (bdrew (Below.refl _ _))) (fun hHeld => ?_)
        refine tk 0 hHeld ?_
        refine tk 1 hHeld ?_
        refine tk 2 hHeld ?_
        refine tk 3 hHeld ?_
        refine tk 4 hHeld ?_
        refine tk 5 hHeld ?_
        refine tk 6 hHeld ?_
        refine tk 7 hHeld ?_
        refine tk 8 hHeld ?_
        refine tk 9 hHeld ?_
        refine tk 10 hHeld ?_
        refine tk 11 hHeld ?_
        refine wpAnyH_done (by kernel_rfl) ?_ _
        clear hHeld
        refine fin (fun W => Below wr.heap.size wr W) (bdrew (Below.refl _ _)) ?_
        rintro W hbW
        have HO1 := Lib.hid (HO.out.keep hbW)
        have HK1w := Lib.hid (HKw.out.keep hbW)
        have HB2 := Lib.hid (bthen HB.out hbW)
        have HL0 : Hid (W.rangeAt b (off + i * 12) XX) := Lib.hid (HSr.out W hbW)
        have hws2 : Hid (w1.heap.size ≤ W.heap.size) := Lib.hid HB2.out.size
        clear hbW HS HSr HO HKw HB
        go_wp2_with (first
          | refine wpList_load_mid rfl 50 (.tmp 39) rfl b (off + i * 12) rfl XX _ HL0.out Try.underlying50 rfl HSz.out ?_
          | refine wpList_bsR1 rfl 29 50 (.tmp 40) rfl XX rfl HB1s.out ?_
          | (at_builtin; refine wpList_pushX rfl (.tmp 36) (.tmp 41) 29 96 (.agg (cRc zRc).toArray) rfl Try.underlying29 zRf_info rfl (by decide) (by decide) cRc_len r (cRc_one r) rfl (HO1.out.keep (alloc_below _ _)) W.heap.size 1 rfl (by rw [← HXe.out]; exact blk_whole (Blk.new W _ _)) hgl2 (Nat.le_trans hws2.out (by simp)) ?_))
        intro vr Wr k1 k2 k3
        have K : Hid (OwnX 12 cRc 50 Wr w1.heap.size vr (gI R x p (i + 1)) ∧ Blk Wr w.heap.size 50 X3.toArray ∧ Below w1.heap.size w1 Wr) := Lib.hid (by
          have q := HK1w.out.keep (alloc_below W (.cells XX.toArray 50))
          have hlo := hws1.out
          exact ⟨by rw [HStep.out]; (try rw [List.append_assoc]); exact k1, q.same (k2.block _ q.lt (fun e => by have := (HO1.out.lt _ e.symm).1; omega)), grown_below2 (bthen HB2.out (alloc_below _ _)) k2 (fun b e => (HO1.out.lt b e).1)⟩)
        clear k1 k2 k3
        go_wp2
        go_roundw
        case rel => exact ⟨i + 1, by go_num, by omega, by rw [dn2], K.out.1, K.out.2.1, K.out.2.2⟩
        case measure => simp [ivl] <;> omega
      · obtain ⟨e1, e2⟩ := HAt.out hip
        have HStep := Lib.hid e1
        have dn : decide (p < i) = false := decide_eq_false (by omega)
        have dn2 : decide (p < i + 1) = true := decide_eq_true (by omega)
        rw [dn]
        have hgl2 : (gI R x p i).length ≤ 2000 := by omega
        have hgl3 : (gI R x p i ++ [x]).length ≤ 2000 := by rw [List.length_append]; simp; omega
        clear e1 HLow HAt HHigh hip
        go_wp2_with fail
        refine wp_region_held_drew (S := fun w' => w'.cell? ⟨b, off + i * 12, none⟩ = some (.int .i64 ri) ∧ w'.cell? ⟨w.heap.size, 0, none⟩ = some (.int .i64 y)) (by kernel_rfl) (HS.out _ (bdrew (Below.refl _ _))) (fun hHeld => ?_)
        refine tk 0 hHeld ?_
        refine tk 1 hHeld ?_
        refine tk 2 hHeld ?_
        refine tk 3 hHeld ?_
        refine tk 4 hHeld ?_
        refine tk 5 hHeld ?_
        refine tk 6 hHeld ?_
        refine tk 7 hHeld ?_
        refine tk 8 hHeld ?_
        refine tk 9 hHeld ?_
        refine tk 10 hHeld ?_
        refine tk 11 hHeld ?_
        refine wpAnyH_done (by kernel_rfl) ?_ _
        clear hHeld
        refine fin (fun W => Below wr.heap.size wr W) (bdrew (Below.refl _ _)) ?_
        rintro W hbW
        have HO1 := Lib.hid (HO.out.keep hbW)
        have HK1w := Lib.hid (HKw.out.keep hbW)
        have HB2 := Lib.hid (bthen HB.out hbW)
        have HL0 : Hid (W.rangeAt b (off + i * 12) XX) := Lib.hid (HSr.out W hbW)
        have hws2 : Hid (w1.heap.size ≤ W.heap.size) := Lib.hid HB2.out.size
        clear hbW HS HSr HO HKw HB
        go_upto_region 10 with (first
          | refine wpList_load_mid rfl 50 (.tmp 3) rfl w.heap.size 0 rfl X3 _ (blk_whole HK1w.out) Try.underlying50 rfl HSx.out ?_
          | refine wpList_bsR1 rfl 29 50 (.tmp 33) rfl X3 rfl HBx.out ?_
          | (at_builtin; refine wpList_pushX rfl (.tmp 32) (.tmp 34) 29 96 (.agg (cRc zRc).toArray) rfl Try.underlying29 zRf_info rfl (by decide) (by decide) cRc_len x (cRc_one x) rfl (HO1.out.keep (alloc_below _ _)) W.heap.size 1 rfl (by rw [← HX3.out]; exact blk_whole (Blk.new W _ _)) hgl2 (Nat.le_trans hws2.out (by simp)) ?_))
        intro v1 Wx k1 k2 k3
        have HOx := Lib.hid k1
        have HKx : Hid (Blk Wx w.heap.size 50 X3.toArray ∧ Below w1.heap.size w1 Wx ∧ Wx.rangeAt b (off + i * 12) XX ∧ w1.heap.size ≤ Wx.heap.size) := Lib.hid (by
          have q := HK1w.out.keep (alloc_below W (.cells X3.toArray 50))
          have hlo := hws1.out
          have hbb := grown_below2 (bthen HB2.out (alloc_below _ _)) k2 (fun b e => (HO1.out.lt b e).1)
          refine ⟨q.same (k2.block _ q.lt (fun e => by have := (HO1.out.lt _ e.symm).1; omega)), hbb, ?_, hbb.size⟩
          obtain ⟨b', off', r', e', hbl', hr', hrr'⟩ := HRr.out.at_ hlt
          injection e' with e'; injection e' with e1 e2; subst e1 e2
          have hal := alloc_below W (.cells X3.toArray 50)
          have hbW : b < W.heap.size := Nat.lt_of_lt_of_le hbl' hws2.out
          exact range_same HL0.out ((k2.block b (Nat.lt_of_lt_of_le hbW hal.size) (fun e => by have := (HO1.out.lt _ e.symm).1; omega)).trans (hal.block b hbW)))
        have HKb := Lib.hid HKx.out.1
        have HBb := Lib.hid HKx.out.2.1
        have HLb := Lib.hid HKx.out.2.2.1
        have HWb := Lib.hid HKx.out.2.2.2
        clear k1 k2 k3
        go_upto_region 10 with fail
        go_wp2_with (first
          | refine wpList_load_mid rfl 50 (.tmp 39) rfl b (off + i * 12) rfl XX _ HLb.out Try.underlying50 rfl HSz.out ?_
          | refine wpList_bsR1 rfl 29 50 (.tmp 40) rfl XX rfl HB1s.out ?_
          | (at_builtin; refine wpList_pushX rfl (.tmp 36) (.tmp 41) 29 96 (.agg (cRc zRc).toArray) rfl Try.underlying29 zRf_info rfl (by decide) (by decide) cRc_len r (cRc_one r) rfl (HOx.out.keep (alloc_below _ _)) Wx.heap.size 1 rfl (by rw [← HXe.out]; exact blk_whole (Blk.new Wx _ _)) hgl3 (Nat.le_trans HWb.out (by simp)) ?_))
        intro vr Wr k1 k2 k3
        have K : Hid (OwnX 12 cRc 50 Wr w1.heap.size vr (gI R x p (i + 1)) ∧ Blk Wr w.heap.size 50 X3.toArray ∧ Below w1.heap.size w1 Wr) := Lib.hid (by
          have q := HKb.out.keep (alloc_below Wx (.cells XX.toArray 50))
          have hlo := hws1.out
          exact ⟨by rw [HStep.out]; (try rw [List.append_assoc]); exact k1, q.same (k2.block _ q.lt (fun e => by have := (HOx.out.lt _ e.symm).1; omega)), grown_below2 (bthen HBb.out (alloc_below _ _)) k2 (fun b e => (HOx.out.lt b e).1)⟩)
        clear k1 k2 k3
        go_wp2
        go_roundw
        case rel => exact ⟨i + 1, by go_num, by omega, by rw [dn2], K.out.1, K.out.2.1, K.out.2.2⟩
        case measure => simp [ivl] <;> omega
      · have HStep := Lib.hid (HHigh.out hip)
        have dn : decide (p < i) = true := decide_eq_true hip
        have dn2 : decide (p < i + 1) = true := decide_eq_true (by omega)
        rw [dn]
        have hgl2 : (gI R x p i).length ≤ 2000 := by omega
        clear HLow HAt HHigh
        go_wp2_with fail
        refine wp_region_held_drew (S := fun _ => True) (by kernel_rfl) (trivial) (fun hHeld => ?_)
        refine tk 0 hHeld ?_
        refine tk 1 hHeld ?_
        refine tk 2 hHeld ?_
        refine tks 3 hHeld ?_
        refine tks 4 hHeld ?_
        refine tks 5 hHeld ?_
        refine tks 6 hHeld ?_
        refine tks 7 hHeld ?_
        refine tks 8 hHeld ?_
        refine tks 9 hHeld ?_
        refine tks 10 hHeld ?_
        refine tk 11 hHeld ?_
        refine wpAnyH_done (by kernel_rfl) ?_ _
        clear hHeld
        refine fin (fun W => Below wr.heap.size wr W) (bdrew (Below.refl _ _)) ?_
        rintro W hbW
        have HO1 := Lib.hid (HO.out.keep hbW)
        have HK1w := Lib.hid (HKw.out.keep hbW)
        have HB2 := Lib.hid (bthen HB.out hbW)
        have HL0 : Hid (W.rangeAt b (off + i * 12) XX) := Lib.hid (HSr.out W hbW)
        have hws2 : Hid (w1.heap.size ≤ W.heap.size) := Lib.hid HB2.out.size
        clear hbW HS HSr HO HKw HB
        go_wp2_with (first
          | refine wpList_load_mid rfl 50 (.tmp 39) rfl b (off + i * 12) rfl XX _ HL0.out Try.underlying50 rfl HSz.out ?_
          | refine wpList_bsR1 rfl 29 50 (.tmp 40) rfl XX rfl HB1s.out ?_
          | (at_builtin; refine wpList_pushX rfl (.tmp 36) (.tmp 41) 29 96 (.agg (cRc zRc).toArray) rfl Try.underlying29 zRf_info rfl (by decide) (by decide) cRc_len r (cRc_one r) rfl (HO1.out.keep (alloc_below _ _)) W.heap.size 1 rfl (by rw [← HXe.out]; exact blk_whole (Blk.new W _ _)) hgl2 (Nat.le_trans hws2.out (by simp)) ?_))
        intro vr Wr k1 k2 k3
        have K : Hid (OwnX 12 cRc 50 Wr w1.heap.size vr (gI R x p (i + 1)) ∧ Blk Wr w.heap.size 50 X3.toArray ∧ Below w1.heap.size w1 Wr) := Lib.hid (by
          have q := HK1w.out.keep (alloc_below W (.cells XX.toArray 50))
          have hlo := hws1.out
          exact ⟨by rw [HStep.out]; (try rw [List.append_assoc]); exact k1, q.same (k2.block _ q.lt (fun e => by have := (HO1.out.lt _ e.symm).1; omega)), grown_below2 (bthen HB2.out (alloc_below _ _)) k2 (fun b e => (HO1.out.lt b e).1)⟩)
        clear k1 k2 k3
        go_wp2
        go_roundw
        case rel => exact ⟨i + 1, by go_num, by omega, by rw [dn2], K.out.1, K.out.2.1, K.out.2.2⟩
        case measure => simp [ivl] <;> omega
    · obtain rfl : i = m := by omega
      have j2 : ¬ (i : Int) < (i : Int) := by omega
      have hRm : R.take i = R := List.take_of_length_le (by rw [HM.out]; exact Nat.le_refl _)
      by_cases hpi : p < i
      · rw [decide_eq_true hpi]
        have HF : Hid (OwnX 12 cRc 50 wr w1.heap.size u6 (R.take p ++ x :: R.drop p)) := Lib.hid (by
          have q := HO.out
          unfold gI at q
          rw [if_neg (by omega), hRm] at q
          exact q)
        clear hRm
        go_wp2
        go_ret
        obtain ⟨v', R', f1, f2⟩ := HEnd.out _ _ HF.out HB.out
        first | exact ⟨v', f1, R', f2⟩ | exact ⟨v', R', f1, f2⟩
      · rw [decide_eq_false hpi]
        obtain rfl : p = i := by omega
        have hgl2 : (gI R x p p).length ≤ 2000 := by rw [gI_low (Nat.le_refl _), List.length_take]; omega
        have hws2 : Hid (w1.heap.size ≤ wr.heap.size) := Lib.hid HB.out.size
        have HG : Hid (gI R x p p ++ [x] = R.take p ++ x :: R.drop p) := Lib.hid (by
          rw [gI_low (Nat.le_refl _), List.drop_of_length_le (by rw [HM.out]; exact Nat.le_refl _)])
        clear hRm
        go_wp2_with (first
          | refine wpList_load_mid rfl 50 (.tmp 3) rfl w.heap.size 0 rfl X3 _ (blk_whole HKw.out) Try.underlying50 rfl HSx.out ?_
          | refine wpList_bsR1 rfl 29 50 (.tmp 46) rfl X3 rfl HBx.out ?_
          | (at_builtin; refine wpList_pushX rfl (.tmp 45) (.tmp 47) 29 96 (.agg (cRc zRc).toArray) rfl Try.underlying29 zRf_info rfl (by decide) (by decide) cRc_len x (cRc_one x) rfl (HO.out.keep (alloc_below _ _)) wr.heap.size 1 rfl (by rw [← HX3.out]; exact blk_whole (Blk.new wr _ _)) hgl2 (Nat.le_trans hws2.out (by simp)) ?_))
        intro v1 Wx k1 k2 k3
        have HF : Hid (OwnX 12 cRc 50 Wx w1.heap.size v1 (R.take p ++ x :: R.drop p) ∧ Below w1.heap.size w1 Wx) := Lib.hid ⟨HG.out ▸ k1, grown_below2 (bthen HB.out (alloc_below _ _)) k2 (fun b e => (HO.out.lt b e).1)⟩
        clear k1 k2 k3
        go_wp2
        go_ret
        obtain ⟨v', R', f1, f2⟩ := HEnd.out _ _ HF.out.1 HF.out.2
        first | exact ⟨v', f1, R', f2⟩ | exact ⟨v', R', f1, f2⟩
end Go.Proofs.Ytjcibffhlhdjeaa
