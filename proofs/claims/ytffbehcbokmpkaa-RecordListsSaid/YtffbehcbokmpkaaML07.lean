/-
  3 texts in one file, each with its own heading.
-/
import Derived.Test.YtffbehcbokmpkaaML06
import Derived.Deep.QuietTactic
import Derived.Maps.AppendAt
import Derived.Deep.RegionHeld3
import Derived.Maps.Own
/-
  What the program's bit, within, Of, Kinds and Has of layer 6 answer.
-/
namespace Go.Proofs.Ytffbehcbokmpkaa
open Go.RowKit

set_option maxHeartbeats 400000 in
set_option maxRecDepth 100000 in
theorem pbit_any {k : Int} (hk : kOk k = true) (w : World) :
    Calls Try.prog 66 #[.int .i64 k] w fun e w' => e = .returned (.int .i64 (2 ^ k.toNat)) ∧ w = w' := by
  rcases kOk_cases hk with rfl | rfl | rfl | rfl | rfl
  all_goals
    clear hk
    go_enter Try.func66, Try.ntmps66
    go_wp2
    go_ret
    exact ⟨rfl, rfl⟩

set_option maxHeartbeats 400000 in
set_option maxRecDepth 100000 in
theorem pin_b (n m : Int) (w : World) :
    Calls Try.prog 64 #[.int .i64 n, .int .i64 m] w fun e w' => e = .returned (.bool (inB n m)) ∧ w = w' := by
  unfold inB
  by_cases h1 : 0 ≤ n
  · have g1 : decide (0 ≤ n) = true := by simpa using h1
    go_enter Try.func64, Try.ntmps64
    go_wp2
    go_ret
    exact ⟨by rw [g1]; rfl, rfl⟩
  · have g1 : decide (0 ≤ n) = false := by simpa using h1
    go_enter Try.func64, Try.ntmps64
    go_wp2
    go_ret
    exact ⟨rfl, rfl⟩
theorem pin_bb {n m : Int} {b : Bool} (h : inB n m = b) (w : World) :
    Calls Try.prog 64 #[.int .i64 n, .int .i64 m] w fun e w' => e = .returned (.bool b) ∧ w = w' := (pin_b n m w).mono fun _ _ ⟨he, hw⟩ => ⟨by rw [he, h], hw⟩

set_option maxHeartbeats 1000000 in
set_option maxRecDepth 100000 in
theorem pof_any (a : Option Addr) (len cap : Nat) (ks : List Int) (w : World) (row : Row w a len ks) :
    Calls Try.prog 49 #[.slice a len cap] w fun e w' => e = .returned (.tuple #[.int .i64 (ksV ks), .int .i64 (ksE ks)]) ∧ w = w' := by
  have HL := Lib.hid row.1
  have hbig := row.2.1
  have HRow := Lib.hid row
  clear row
  go_enter Try.func49, Try.ntmps49
  go_wp2
  go_loopw [4, 9] (fun v i wr => ∃ j : Nat, j ≤ len ∧ i = .int .i64 j ∧ v = .int .i64 (ksS (ks.take j)) ∧ ksOk (ks.take j) = true ∧ wr = w) (fun _ i _ => len - (intOf i).toNat)
  case atStart => exact ⟨0, by omega, rfl, rfl, rfl, rfl⟩
  case round =>
    obtain ⟨j, hj, rfl, rfl, hz, rfl⟩ := hrel
    have HZ := Lib.hid hz
    have hsb := ks_bound (ks.take j) 0 (by omega) hz
    clear hz
    by_cases hlt : j < len
    · obtain ⟨b, off, k, rfl, hv, c0⟩ := row_at6 HRow.out hlt
      have HV := Lib.hid hv
      have HSucc := Lib.hid (ks_succ hv)
      clear hv
      have hj0 : (0 : Int) ≤ (j : Int) := by omega
      have hj1 : (j : Int) < (len : Int) := by omega
      obtain ⟨s, hs⟩ : ∃ s, s = ksS (ks.take j) := ⟨_, rfl⟩
      rw [show (ks.take j).foldl addK 0 = s from hs.symm] at hsb
      rw [← hs] at HSucc
      rw [← hs]
      clear hs
      by_cases h : k < 0
      · have hno := ksOk_bad HV.out (by unfold kOk; simp; omega)
        have HNo := Lib.hid hno
        clear hno
        go_wp2
        go_ret2
        exact ⟨by unfold ksV ksE; rw [HNo.out]; rfl, rfl⟩
      · by_cases h5 : 5 ≤ k
        · have hno := ksOk_bad HV.out (by unfold kOk; simp; omega)
          have HNo := Lib.hid hno
          clear hno
          go_wp2
          go_ret2
          exact ⟨by unfold ksV ksE; rw [HNo.out]; rfl, rfl⟩
        · have hk : kOk k = true := by unfold kOk; simp; omega
          have HOk := Lib.hid (ksOk_succ HV.out HZ.out hk)
          have HK := Lib.hid hk
          have HO := Lib.hid (or_addK hsb hk)
          clear hk hsb
          go_wp2_with fail
          refine (pbit_any HK.out _).mono ?_
          rintro e w1 ⟨rfl, rfl⟩
          obtain ⟨t, ht⟩ : ∃ t, t = (2 : Int) ^ k.toNat := ⟨_, rfl⟩
          rw [← ht] at HO
          rw [← ht]
          clear ht
          go_wp2
          go_roundw
          case rel => exact ⟨j + 1, by omega, by go_num, by rw [HSucc.out, ← HO.out], HOk.out, by trivial⟩
          case measure => simp [intOf] <;> omega
    · obtain rfl : j = len := by omega
      have et : ks.take j = ks := List.take_of_length_le (by rw [HL.out]; exact Nat.le_refl _)
      rw [et] at HZ
      rw [et]
      clear et hsb
      go_wp2
      go_ret2
      exact ⟨by unfold ksV ksE; rw [HZ.out]; rfl, rfl⟩

theorem kind_info : (Try.prog.info? 64).map (fun i => (i.zero, i.size, i.bytes)) = some (some (.int .i64 0), 1, 8) := by kernel_rfl
def OwnK (w : World) (base : Nat) (v : Value) (n : Nat) (zs : List Int) : Prop := w.ownsRow base 64 1 v n (zs.map (Value.int .i64))
theorem OwnK.nil (w : World) (base : Nat) : OwnK w base (.slice none 0 0) 0 [] := World.ownsRow_nil _ _ _ _
theorem OwnK.row {w : World} {base : Nat} {v : Value} {n : Nat} {zs : List Int} (h : OwnK w base v n zs) : ∃ a cap, v = .slice a n cap ∧ Row w a n zs := by
  have hl : zs.length = n := by simpa using h.1
  rcases h.2 with ⟨rfl, rfl⟩ | ⟨g, cap, cur, rfl, hb, hh, hnc, hm, hs, ht⟩
  · exact ⟨none, 0, rfl, hl, by omega, Or.inl rfl⟩
  · unfold maxLen at hm
    refine ⟨_, cap, rfl, hl, by omega, Or.inr ⟨g, 0, rfl, fun i hi => ?_⟩⟩
    rw [Nat.zero_add]
    have hi' : i < (zs.map (Value.int .i64)).length := by rw [List.length_map]; omega
    have hc := World.ownsRow.cellAt (j := i) h (by omega)
    rw [hc]
    simp [List.getD, List.getElem?_eq_getElem (show i < zs.length by omega)]
theorem grownK_below {w0 wr w' : World} {base B : Nat} {v : Value} {n : Nat} {zs : List Int} {o : Obj} (ho : OwnK wr base v n zs) (hB : B ≤ base) (hb : Below B w0 wr) (hs : B ≤ wr.heap.size) (hg : (wr.alloc o).grownBy w' v.ownBlock) : Below B w0 w' :=
  (hb.alloc hs o).grown hg (by simp; omega) (fun k hk => by have := World.ownsRow.lt ho k hk; omega)

set_option maxHeartbeats 1000000 in
set_option maxRecDepth 100000 in
theorem pkinds_any (s : Int) (w : World) :
    Calls Try.prog 80 #[.int .i64 s] w fun e w' => ∃ a cap, e = .returned (.slice a (kindsL s).length cap) ∧ Row w' a (kindsL s).length (kindsL s) ∧ Below w.heap.size w w' := by
  obtain ⟨i0, hi0, hz0, hz1, hz2⟩ := info_parts kind_info
  have HI := Lib.hid (And.intro hi0 (And.intro hz0 (And.intro hz1 hz2)))
  clear hi0 hz0 hz1 hz2
  go_enter Try.func80, Try.ntmps80
  go_wp2
  go_loopw [3, 5] (fun v i wr => ∃ k : Nat, k ≤ 5 ∧ i = .int .i64 k ∧ OwnK wr w.heap.size v (kindsTo s k).length (kindsTo s k) ∧ Below w.heap.size w wr) (fun _ i _ => 5 - (intOf i).toNat)
  case atStart => exact ⟨0, by omega, rfl, OwnK.nil _ _, Below.refl _ _⟩
  case round =>
    obtain ⟨k, hk, rfl, hown, hb⟩ := hrel
    have HOwn := Lib.hid hown
    have HB := Lib.hid hb
    clear hown hb
    by_cases hlt : k < 5
    · have hk0 : (0 : Int) ≤ (k : Int) := by omega
      have hk1 : (k : Int) < 5 := by omega
      have HK : Hid (kOk (k : Int) = true) := Lib.hid (by unfold kOk; simp; omega)
      have hle := kindsTo_len s k
      have ha := and_one s HK.out
      by_cases hL : hasB s (k : Int) = true
      · rw [hL] at ha
        have HA := Lib.hid (kindsTo_yes hL)
        clear hL
        obtain ⟨n, hn⟩ : ∃ n, n = (kindsTo s k).length := ⟨_, rfl⟩
        rw [← hn] at HOwn hle
        have HN := Lib.hid hn
        clear hn
        have hsz : w.heap.size ≤ wr.heap.size := HB.out.size
        go_wp2_with fail
        refine (pbit_any HK.out _).mono ?_
        rintro e w1 ⟨rfl, rfl⟩
        obtain ⟨t, ht⟩ : ∃ t, t = (2 : Int) ^ (k : Int).toNat := ⟨_, rfl⟩
        rw [← ht] at ha
        rw [← ht]
        clear ht
        go_wp2_with (at_builtin; refine wpList_append_own _ rfl (.tmp 13) (.tmp 15) 92 rfl w.heap.size 64 i0 (.int .i64 0) 1 8 Try.underlying92 HI.out.1 HI.out.2.1 HI.out.2.2.1 HI.out.2.2.2 rfl (by decide) _ _ _ rfl (HOwn.out.alloc _) ⟨wr.heap.size, 0, none⟩ 1 1 [.int .i64 (k : Int)] rfl rfl (cell_one_new _ _ _) (by intro u hu; simp at hu; subst hu; rfl) (by unfold maxLen; omega) (by omega) (by simp; omega) ?_)
        intro v' w2 hown' hgrow _
        have HOwn' := Lib.hid hown'
        have HGr := Lib.hid hgrow
        clear hown' hgrow
        go_wp2
        go_roundw
        case rel =>
          have el : (kindsTo s (k + 1)).length = n + 1 := by rw [HA.out, List.length_append, ← HN.out]; rfl
          refine ⟨k + 1, by omega, by go_num, ?_, grownK_below HOwn.out (Nat.le_refl _) HB.out hsz HGr.out⟩
          rw [el]
          unfold OwnK
          rw [HA.out, List.map_append]
          exact HOwn'.out
        case measure => simp [intOf] <;> omega
      · have hL' : hasB s (k : Int) = false := by simpa using hL
        rw [hL'] at ha
        have HA := Lib.hid (kindsTo_no hL')
        clear hL hL'
        go_wp2_with fail
        refine (pbit_any HK.out _).mono ?_
        rintro e w1 ⟨rfl, rfl⟩
        obtain ⟨t, ht⟩ : ∃ t, t = (2 : Int) ^ (k : Int).toNat := ⟨_, rfl⟩
        rw [← ht] at ha
        rw [← ht]
        clear ht
        go_wp2
        go_roundw
        case rel => exact ⟨k + 1, by omega, by go_num, by rw [HA.out]; exact HOwn.out, HB.out⟩
        case measure => simp [intOf] <;> omega
    · obtain rfl : k = 5 := by omega
      rw [kindsTo_all] at HOwn
      obtain ⟨a, cap, rfl, hr⟩ := HOwn.out.row
      have HA := Lib.hid hr
      clear hr
      go_wp2
      go_ret
      exact ⟨a, cap, rfl, HA.out, HB.out⟩

set_option maxHeartbeats 1000000 in
set_option maxRecDepth 100000 in
theorem phas_any (s : Int) (a : Option Addr) (len cap : Nat) (ks : List Int) (w : World) (row : Row w a len ks) :
    Calls Try.prog 31 #[.int .i64 s, .slice a len cap] w fun e w' => e = .returned (.bool (hasAll s ks)) ∧ w = w' := by
  have HRow := Lib.hid row
  clear row
  cases hok : ksOk ks with
  | true =>
    have ha := hasAll_and s ks hok
    have HV : Hid (ksV ks = ksS ks ∧ ksE ks = 0) := Lib.hid (by unfold ksV ksE; rw [hok]; exact ⟨rfl, rfl⟩)
    clear hok
    go_enter Try.func31, Try.ntmps31
    go_wp2_with fail
    refine (pof_any _ _ _ ks _ HRow.out).mono ?_
    rintro e w1 ⟨rfl, rfl⟩
    rw [HV.out.1, HV.out.2]
    clear HV HRow
    obtain ⟨t, ht⟩ : ∃ t, t = ksS ks := ⟨_, rfl⟩
    rw [← ht] at ha
    rw [← ht]
    clear ht
    go_wp2
    go_ret
    exact ⟨by rw [← ha]; rfl, rfl⟩
  | false =>
    rw [hasAll_no hok]
    have HV : Hid (ksV ks = 0 ∧ ksE ks = 1) := Lib.hid (by unfold ksV ksE; rw [hok]; exact ⟨rfl, rfl⟩)
    clear hok
    go_enter Try.func31, Try.ntmps31
    go_wp2_with fail
    refine (pof_any _ _ _ ks _ HRow.out).mono ?_
    rintro e w1 ⟨rfl, rfl⟩
    rw [HV.out.1, HV.out.2]
    clear HV HRow
    go_wp2
    go_ret
    exact ⟨rfl, rfl⟩
theorem phas_b {s : Int} {ks : List Int} {b : Bool} (h : hasAll s ks = b) (a : Option Addr) (len cap : Nat) (w : World) (row : Row w a len ks) :
    Calls Try.prog 31 #[.int .i64 s, .slice a len cap] w fun e w' => e = .returned (.bool b) ∧ w = w' := (phas_any s a len cap ks w row).mono fun _ _ ⟨he, hw⟩ => ⟨by rw [he, h], hw⟩
set_option maxHeartbeats 2000000 in
set_option maxRecDepth 100000 in
theorem cl_place (X Y X' : List Value) (g : Nat) (V : List Value) (hV : (Y.drop 1).take 12 = V) (hV2 : V.length = 12) (hV3 : V.toArray.all (·.oneCell') = true) (hs : splice X 1 V = X') (w : World) (kq : Blk w g 32 Y.toArray) (hX : X.length = 24) (hX' : X'.length = 24) (ho : X'.toArray.all (·.oneCell') = true) :
    Calls Try.prog 85 #[.agg X.toArray, .pointer (some ⟨g, 0, none⟩)] w fun e w' => e = .returned (.agg X'.toArray) ∧ Below w.heap.size w w' := by
  have HO := Lib.hid ho
  have HS : Hid ((Try.prog.info? 32).map (·.size) = some X'.length) := Lib.hid (by rw [hX']; kernel_rfl)
  have HS' : Hid ((Try.prog.info? 32).map (·.size) = some X'.toArray.size) := Lib.hid (by rw [List.size_toArray, hX']; kernel_rfl)
  have HZ : Hid (0 + X'.toArray.size ≤ Z24.length) := Lib.hid (by rw [List.size_toArray, hX']; exact Nat.le_refl 24)
  have HZ2 : Hid (0 + X'.length ≤ Z24.length) := Lib.hid (by rw [hX']; exact Nat.le_refl 24)
  have HZ3 : Hid (X'.length = Z24.length) := Lib.hid (by rw [hX']; rfl)
  have HX := Lib.hid hX
  have KP := Lib.hid ((Blk.new w 32 X.toArray).alloc (.cells Z24.toArray 32))
  have KR := Lib.hid (blkAt (Blk.new (w.alloc (.cells X.toArray 32)) 32 Z24.toArray) (g' := w.heap.size + 1) (by simp))
  have KQ := Lib.hid ((kq.alloc (.cells X.toArray 32)).alloc (.cells Z24.toArray 32))
  have hg := kq.lt
  have KQw := Lib.hid kq
  clear ho hX hX' kq
  have HS2 : Hid ((Try.prog.info? 26).map (·.size) = some V.length) := Lib.hid (by rw [hV2]; kernel_rfl)
  have HS3 : Hid ((Try.prog.info? 26).map (·.size) = some V.toArray.size) := Lib.hid (by rw [List.size_toArray, hV2]; kernel_rfl)
  have HO3 := Lib.hid hV3
  have HV2 := Lib.hid hV2
  have HR3 : Hid (((w.alloc (.cells X.toArray 32)).alloc (.cells Z24.toArray 32)).rangeAt g 1 V) := Lib.hid (hV ▸ blk_range KQ.out 1 12)
  have HT3 : Hid (((w.alloc (.cells X.toArray 32)).alloc (.cells Z24.toArray 32)).there w.heap.size 1 V.toArray.size) := Lib.hid (blk_there KP.out (by rw [List.size_toArray, HV2.out, HX.out]; omega))
  have KP2 : Hid (Blk (((w.alloc (.cells X.toArray 32)).alloc (.cells Z24.toArray 32)).setCells w.heap.size 1 V) w.heap.size 32 X'.toArray) := Lib.hid (hs ▸ blk_setCells V KP.out (by rw [HV2.out, HX.out]; omega))
  have KR2 : Hid (Blk (((w.alloc (.cells X.toArray 32)).alloc (.cells Z24.toArray 32)).setCells w.heap.size 1 V) (w.heap.size + 1) 32 Z24.toArray) := Lib.hid (blk_setFar V KR.out (by omega))
  have HB2 : Hid (Below w.heap.size w (((w.alloc (.cells X.toArray 32)).alloc (.cells Z24.toArray 32)).setCells w.heap.size 1 V)) := Lib.hid (below_setCells V (balloc (alloc_below _ _) _) (Nat.le_refl _))
  go_enter Try.func85, Try.ntmps85
  go_wp2_with (first | refine wpList_load_mid rfl 26 (.tmp 4) rfl g 1 rfl V _ HR3.out Try.underlying26 rfl HS2.out ?_ | refine wpList_store_mid rfl 26 (.tmp 6) (.tmp 5) rfl w.heap.size 1 V.toArray rfl rfl HT3.out HS3.out HO3.out ?_ | refine wpList_store_mid rfl 32 (.tmp 3) (.tmp 7) rfl (w.heap.size + 1) 0 X'.toArray rfl rfl (blk_there KR2.out HZ.out) HS'.out HO.out ?_ | refine wpList_load_mid rfl 32 (.tmp 2) rfl w.heap.size 0 rfl X' _ (blk_whole KP2.out) Try.underlying32 rfl HS.out ?_)
  have KW := Lib.hid (splice_all HZ3.out ▸ blk_setCells X' KR2.out HZ2.out)
  refine fin (fun W => Blk W (w.heap.size + 1) 32 X'.toArray ∧ Below w.heap.size w W) ⟨KW.out, below_setCells _ HB2.out (by omega)⟩ ?_
  rintro W ⟨kr, hb⟩
  have hl := run_loadVar_mid W (w.heap.size + 1) 0 32 X' _ (blk_whole kr) Try.underlying32 rfl HS.out
  simp only [Act.put, List.setIfInBounds_toArray, List.set_cons_zero, List.set_cons_succ]
  exact bodyPost_ret (v := .agg X'.toArray) (results_cell Try.results85 rfl hl) rfl ⟨rfl, hb⟩

set_option maxHeartbeats 2000000 in
set_option maxRecDepth 100000 in
theorem cl_layer (X Y X' : List Value) (g : Nat) (l2 : Int) (x23 : Value) (hx23 : X[23]? = some x23) (hy23 : Y[23]? = some (.int .i64 l2)) (hs : X.set 23 (.int .i64 l2) = X') (w : World) (kq : Blk w g 32 Y.toArray) (hX : X.length = 24) (hX' : X'.length = 24) (ho : X'.toArray.all (·.oneCell') = true) :
    Calls Try.prog 88 #[.agg X.toArray, .pointer (some ⟨g, 0, none⟩)] w fun e w' => e = .returned (.agg X'.toArray) ∧ Below w.heap.size w w' := by
  have HO := Lib.hid ho
  have HS : Hid ((Try.prog.info? 32).map (·.size) = some X'.length) := Lib.hid (by rw [hX']; kernel_rfl)
  have HS' : Hid ((Try.prog.info? 32).map (·.size) = some X'.toArray.size) := Lib.hid (by rw [List.size_toArray, hX']; kernel_rfl)
  have HZ : Hid (0 + X'.toArray.size ≤ Z24.length) := Lib.hid (by rw [List.size_toArray, hX']; exact Nat.le_refl 24)
  have HZ2 : Hid (0 + X'.length ≤ Z24.length) := Lib.hid (by rw [hX']; exact Nat.le_refl 24)
  have HZ3 : Hid (X'.length = Z24.length) := Lib.hid (by rw [hX']; rfl)
  have HX := Lib.hid hX
  have KP := Lib.hid ((Blk.new w 32 X.toArray).alloc (.cells Z24.toArray 32))
  have KR := Lib.hid (blkAt (Blk.new (w.alloc (.cells X.toArray 32)) 32 Z24.toArray) (g' := w.heap.size + 1) (by simp))
  have KQ := Lib.hid ((kq.alloc (.cells X.toArray 32)).alloc (.cells Z24.toArray 32))
  have hg := kq.lt
  have KQw := Lib.hid kq
  clear ho hX hX' kq
  have q23 : w.cell? ⟨g, 23, none⟩ = some (.int .i64 l2) := by rw [KQw.out.cell 23]; simpa using hy23
  have p23 : ((w.alloc (.cells X.toArray 32)).alloc (.cells Z24.toArray 32)).cell? ⟨w.heap.size, 23, none⟩ = some x23 := by rw [KP.out.cell 23]; simpa using hx23
  have f23 : ((w.alloc (.cells X.toArray 32)).alloc (.cells Z24.toArray 32)).frozen? ⟨w.heap.size, 23, none⟩ = false := KP.out.frozen 23
  have KP2 : Hid (Blk ((w.alloc (.cells X'.toArray 32)).alloc (.cells Z24.toArray 32)) w.heap.size 32 X'.toArray) := Lib.hid ((Blk.new w 32 X'.toArray).alloc (.cells Z24.toArray 32))
  have KR2 : Hid (Blk ((w.alloc (.cells X'.toArray 32)).alloc (.cells Z24.toArray 32)) (w.heap.size + 1) 32 Z24.toArray) := Lib.hid (blkAt (Blk.new (w.alloc (.cells X'.toArray 32)) 32 Z24.toArray) (g' := w.heap.size + 1) (by simp))
  have HB2 : Hid (Below w.heap.size w ((w.alloc (.cells X'.toArray 32)).alloc (.cells Z24.toArray 32))) := Lib.hid (balloc (alloc_below _ _) _)
  go_enter Try.func88, Try.ntmps88
  go_wp2_with (first | refine wpList_store_mid rfl 32 (.tmp 3) (.tmp 7) rfl (w.heap.size + 1) 0 X'.toArray rfl rfl (blk_there KR2.out HZ.out) HS'.out HO.out ?_ | refine wpList_load_mid rfl 32 (.tmp 2) rfl w.heap.size 0 rfl X' _ (blk_whole KP2.out) Try.underlying32 rfl HS.out ?_)
  have KW := Lib.hid (splice_all HZ3.out ▸ blk_setCells X' KR2.out HZ2.out)
  refine fin (fun W => Blk W (w.heap.size + 1) 32 X'.toArray ∧ Below w.heap.size w W) ⟨KW.out, below_setCells _ HB2.out (by omega)⟩ ?_
  rintro W ⟨kr, hb⟩
  have hl := run_loadVar_mid W (w.heap.size + 1) 0 32 X' _ (blk_whole kr) Try.underlying32 rfl HS.out
  simp only [Act.put, List.setIfInBounds_toArray, List.set_cons_zero, List.set_cons_succ]
  exact bodyPost_ret (v := .agg X'.toArray) (results_cell Try.results88 rfl hl) rfl ⟨rfl, hb⟩

set_option maxHeartbeats 2000000 in
set_option maxRecDepth 100000 in
theorem cl_hide (X X' : List Value) (hs : X = X') (w : World) (hX : X.length = 24) (hX' : X'.length = 24) (ho : X'.toArray.all (·.oneCell') = true) :
    Calls Try.prog 89 #[.agg X.toArray] w fun e w' => e = .returned (.agg X'.toArray) ∧ Below w.heap.size w w' := by
  have HO := Lib.hid ho
  have HS : Hid ((Try.prog.info? 32).map (·.size) = some X'.length) := Lib.hid (by rw [hX']; kernel_rfl)
  have HS' : Hid ((Try.prog.info? 32).map (·.size) = some X'.toArray.size) := Lib.hid (by rw [List.size_toArray, hX']; kernel_rfl)
  have HZ : Hid (0 + X'.toArray.size ≤ Z24.length) := Lib.hid (by rw [List.size_toArray, hX']; exact Nat.le_refl 24)
  have HZ2 : Hid (0 + X'.length ≤ Z24.length) := Lib.hid (by rw [hX']; exact Nat.le_refl 24)
  have HZ3 : Hid (X'.length = Z24.length) := Lib.hid (by rw [hX']; rfl)
  have HX := Lib.hid hX
  have KP := Lib.hid ((Blk.new w 32 X.toArray).alloc (.cells Z24.toArray 32))
  have KR := Lib.hid (blkAt (Blk.new (w.alloc (.cells X.toArray 32)) 32 Z24.toArray) (g' := w.heap.size + 1) (by simp))
  skip
  skip
  skip
  clear ho hX hX' 
  have Hs := Lib.hid hs
  clear hs
  have KP2 : Hid (Blk ((w.alloc (.cells X.toArray 32)).alloc (.cells Z24.toArray 32)) w.heap.size 32 X'.toArray) := Lib.hid (Hs.out ▸ KP.out)
  have KR2 : Hid (Blk ((w.alloc (.cells X.toArray 32)).alloc (.cells Z24.toArray 32)) (w.heap.size + 1) 32 Z24.toArray) := Lib.hid (KR.out)
  have HB2 : Hid (Below w.heap.size w ((w.alloc (.cells X.toArray 32)).alloc (.cells Z24.toArray 32))) := Lib.hid (balloc (alloc_below _ _) _)
  go_enter Try.func89, Try.ntmps89
  go_wp2_with (first | refine wpList_store_mid rfl 32 (.tmp 2) (.tmp 3) rfl (w.heap.size + 1) 0 X'.toArray rfl rfl (blk_there KR2.out HZ.out) HS'.out HO.out ?_ | refine wpList_load_mid rfl 32 (.tmp 1) rfl w.heap.size 0 rfl X' _ (blk_whole KP2.out) Try.underlying32 rfl HS.out ?_)
  have KW := Lib.hid (splice_all HZ3.out ▸ blk_setCells X' KR2.out HZ2.out)
  refine fin (fun W => Blk W (w.heap.size + 1) 32 X'.toArray ∧ Below w.heap.size w W) ⟨KW.out, below_setCells _ HB2.out (by omega)⟩ ?_
  rintro W ⟨kr, hb⟩
  have hl := run_loadVar_mid W (w.heap.size + 1) 0 32 X' _ (blk_whole kr) Try.underlying32 rfl HS.out
  simp only [Act.put, List.setIfInBounds_toArray, List.set_cons_zero, List.set_cons_succ]
  exact bodyPost_ret (v := .agg X'.toArray) (results_cell Try.results89 rfl hl) rfl ⟨rfl, hb⟩

set_option maxHeartbeats 2000000 in
set_option maxRecDepth 100000 in
theorem cl_shape (X Y X' : List Value) (g : Nat) (V : List Value) (m2 : Int) (x13 : Value) (hx13 : X[13]? = some x13) (hy13 : Y[13]? = some (.int .i64 m2)) (hV : (Y.drop 14).take 6 = V) (hV2 : V.length = 6) (hV3 : V.toArray.all (·.oneCell') = true) (hs : splice (X.set 13 (.int .i64 m2)) 14 V = X') (w : World) (kq : Blk w g 32 Y.toArray) (hX : X.length = 24) (hX' : X'.length = 24) (ho : X'.toArray.all (·.oneCell') = true) :
    Calls Try.prog 86 #[.agg X.toArray, .pointer (some ⟨g, 0, none⟩)] w fun e w' => e = .returned (.agg X'.toArray) ∧ Below w.heap.size w w' := by
  have HO := Lib.hid ho
  have HS : Hid ((Try.prog.info? 32).map (·.size) = some X'.length) := Lib.hid (by rw [hX']; kernel_rfl)
  have HS' : Hid ((Try.prog.info? 32).map (·.size) = some X'.toArray.size) := Lib.hid (by rw [List.size_toArray, hX']; kernel_rfl)
  have HZ : Hid (0 + X'.toArray.size ≤ Z24.length) := Lib.hid (by rw [List.size_toArray, hX']; exact Nat.le_refl 24)
  have HZ2 : Hid (0 + X'.length ≤ Z24.length) := Lib.hid (by rw [hX']; exact Nat.le_refl 24)
  have HZ3 : Hid (X'.length = Z24.length) := Lib.hid (by rw [hX']; rfl)
  have HX := Lib.hid hX
  have HS2 : Hid ((Try.prog.info? 30).map (·.size) = some V.length) := Lib.hid (by rw [hV2]; kernel_rfl)
  have HS3 : Hid ((Try.prog.info? 30).map (·.size) = some V.toArray.size) := Lib.hid (by rw [List.size_toArray, hV2]; kernel_rfl)
  have HO3 := Lib.hid hV3
  have HVV := Lib.hid hV
  have HV2 := Lib.hid hV2
  have Hs := Lib.hid hs
  clear hV hV2 hV3 hs
  have KQ0 := Lib.hid kq
  have hg := kq.lt
  clear ho hX hX' kq
  go_enter Try.func86, Try.ntmps86
  go_wp2_with fail
  refine fin (fun W => Blk W w.heap.size 32 X.toArray ∧ Blk W (w.heap.size + 1) 32 Z24.toArray ∧ Blk W g 32 Y.toArray ∧ Below w.heap.size w W) ⟨(Blk.new w 32 X.toArray).alloc (.cells Z24.toArray 32), blkAt (Blk.new (w.alloc (.cells X.toArray 32)) 32 Z24.toArray) (by simp), (KQ0.out.alloc _).alloc _, balloc (alloc_below _ _) _⟩ ?_
  rintro W ⟨kp, kr, kq, hb⟩
  have KP := Lib.hid kp
  have KR := Lib.hid kr
  have KQ := Lib.hid kq
  have HB := Lib.hid hb
  clear kp kr hb kq KQ0
  have q13 : ∀ u, Blk u g 32 Y.toArray → u.cell? ⟨g, 13, none⟩ = some (.int .i64 m2) ∧ u.rangeAt g 14 V := fun _ k => ⟨by rw [k.cell 13]; simpa using hy13, HVV.out ▸ blk_range k 14 6⟩
  have Q13 := Lib.hid q13
  clear q13
  have p13 : W.cell? ⟨w.heap.size, 13, none⟩ = some x13 := by rw [KP.out.cell 13]; simpa using hx13
  have f13 : W.frozen? ⟨w.heap.size, 13, none⟩ = false := KP.out.frozen 13
  have hu := Try.underlying30
  go_wp2_with fail
  refine wp_region_held_drew (S := fun w' => w'.cell? ⟨g, 13, none⟩ = some (.int .i64 m2) ∧ w'.rangeAt g 14 V) (by kernel_rfl) (Q13.out _ KQ.out) (fun hHeld => ?_)
  refine tk 0 hHeld ?_
  refine tk 1 hHeld ?_
  refine tk 2 hHeld ?_
  refine tkl 3 rfl (yieldsIf_load_mid (by rfl) _ _ rfl _ _ rfl _ _ (fun _ h => h.2) hu rfl HS2.out) hHeld ?_
  refine tk 4 hHeld ?_
  refine rd 5 (fun K hK => ?_)
  go_simp
  refine hK.out _ _ (Q13.out _ (KQ.out.far (p := ⟨w.heap.size, 13, none⟩) (by simp; omega) _)) (fun hHeld => ?_)
  clear hK K
  refine tk 6 hHeld ?_
  have K1 := Lib.hid (show Blk (W.setCell ⟨w.heap.size, 13, none⟩ (.int .i64 m2)) w.heap.size 32 (X.set 13 (.int .i64 m2)).toArray by have := KP.out.set_ 13 (.int .i64 m2); simpa using this)
  refine rd 7 (fun K hK => ?_)
  rw [if_pos (by rfl)]
  refine wp_store_mid 30 _ _ rfl w.heap.size 14 V.toArray rfl rfl (blk_there (Blk.drew K1.out) (by rw [List.size_toArray, HV2.out, List.length_set, HX.out]; omega)) HS3.out HO3.out ?_
  refine hK.out _ _ (Q13.out _ (blk_setFar V (KQ.out.far (p := ⟨w.heap.size, 13, none⟩) (by simp; omega) _) (by omega))) (fun hHeld => ?_)
  clear hK K
  refine wpAnyH_done (by kernel_rfl) ?_ _
  clear hHeld
  refine fin (fun W => Blk W w.heap.size 32 X'.toArray ∧ Blk W (w.heap.size + 1) 32 Z24.toArray ∧ Below w.heap.size w W) ⟨Hs.out ▸ blk_setCells V (Blk.drew K1.out) (by rw [HV2.out, List.length_set, HX.out]; omega), blk_setFar V (Blk.drew (KR.out.far (p := ⟨w.heap.size, 13, none⟩) (by simp) _)) (by omega), below_setCells V (bdrewn (HB.out.setCell (p := ⟨w.heap.size, 13, none⟩) (Nat.le_refl _) _)) (Nat.le_refl _)⟩ ?_
  rintro W2 ⟨kp, kr, hb⟩
  have KP2 := Lib.hid kp
  have KR2 := Lib.hid kr
  have HB2 := Lib.hid hb
  clear kp kr hb KP KR HB KQ
  go_wp2_with (first | refine wpList_store_mid rfl 32 (.tmp 3) (.tmp 10) rfl (w.heap.size + 1) 0 X'.toArray rfl rfl (blk_there KR2.out HZ.out) HS'.out HO.out ?_ | refine wpList_load_mid rfl 32 (.tmp 2) rfl w.heap.size 0 rfl X' _ (blk_whole KP2.out) Try.underlying32 rfl HS.out ?_)
  have KW := Lib.hid (splice_all HZ3.out ▸ blk_setCells X' KR2.out HZ2.out)
  refine fin (fun W => Blk W (w.heap.size + 1) 32 X'.toArray ∧ Below w.heap.size w W) ⟨KW.out, below_setCells _ HB2.out (by omega)⟩ ?_
  rintro W ⟨kr, hb⟩
  have hl := run_loadVar_mid W (w.heap.size + 1) 0 32 X' _ (blk_whole kr) Try.underlying32 rfl HS.out
  simp only [Act.put, List.setIfInBounds_toArray]
  exact bodyPost_ret (v := .agg X'.toArray) (results_cell Try.results86 rfl hl) rfl ⟨rfl, hb⟩

set_option maxHeartbeats 2000000 in
set_option maxRecDepth 100000 in
theorem cl_paint (X Y X' : List Value) (g : Nat) (p2 a2 : Int) (c2 : Bool) (x20 x21 x22 : Value) (hx20 : X[20]? = some x20) (hx21 : X[21]? = some x21) (hx22 : X[22]? = some x22) (hy20 : Y[20]? = some (.int .i64 p2)) (hy21 : Y[21]? = some (.int .i64 a2)) (hy22 : Y[22]? = some (.bool c2)) (hs : ((X.set 20 (.int .i64 p2)).set 21 (.int .i64 a2)).set 22 (.bool c2) = X') (w : World) (kq : Blk w g 32 Y.toArray) (hX : X.length = 24) (hX' : X'.length = 24) (ho : X'.toArray.all (·.oneCell') = true) :
    Calls Try.prog 87 #[.agg X.toArray, .pointer (some ⟨g, 0, none⟩)] w fun e w' => e = .returned (.agg X'.toArray) ∧ Below w.heap.size w w' := by
  have HO := Lib.hid ho
  have HS : Hid ((Try.prog.info? 32).map (·.size) = some X'.length) := Lib.hid (by rw [hX']; kernel_rfl)
  have HS' : Hid ((Try.prog.info? 32).map (·.size) = some X'.toArray.size) := Lib.hid (by rw [List.size_toArray, hX']; kernel_rfl)
  have HZ : Hid (0 + X'.toArray.size ≤ Z24.length) := Lib.hid (by rw [List.size_toArray, hX']; exact Nat.le_refl 24)
  have HZ2 : Hid (0 + X'.length ≤ Z24.length) := Lib.hid (by rw [hX']; exact Nat.le_refl 24)
  have HZ3 : Hid (X'.length = Z24.length) := Lib.hid (by rw [hX']; rfl)
  have HX := Lib.hid hX
  have Hs := Lib.hid hs
  clear hs
  have KQ0 := Lib.hid kq
  have hg := kq.lt
  clear ho hX hX' kq
  go_enter Try.func87, Try.ntmps87
  go_wp2_with fail
  refine fin (fun W => Blk W w.heap.size 32 X.toArray ∧ Blk W (w.heap.size + 1) 32 Z24.toArray ∧ Blk W g 32 Y.toArray ∧ Below w.heap.size w W) ⟨(Blk.new w 32 X.toArray).alloc (.cells Z24.toArray 32), blkAt (Blk.new (w.alloc (.cells X.toArray 32)) 32 Z24.toArray) (by simp), (KQ0.out.alloc _).alloc _, balloc (alloc_below _ _) _⟩ ?_
  rintro W ⟨kp, kr, kq, hb⟩
  have KP := Lib.hid kp
  have KR := Lib.hid kr
  have KQ := Lib.hid kq
  have HB := Lib.hid hb
  clear kp kr hb kq KQ0
  have q20 : ∀ u, Blk u g 32 Y.toArray → u.cell? ⟨g, 20, none⟩ = some (.int .i64 p2) ∧ u.cell? ⟨g, 21, none⟩ = some (.int .i64 a2) ∧ u.cell? ⟨g, 22, none⟩ = some (.bool c2) := fun _ k => ⟨by rw [k.cell 20]; simpa using hy20, by rw [k.cell 21]; simpa using hy21, by rw [k.cell 22]; simpa using hy22⟩
  have Q20 := Lib.hid q20
  clear q20
  have p20 : W.cell? ⟨w.heap.size, 20, none⟩ = some x20 := by rw [KP.out.cell 20]; simpa using hx20
  have f20 : W.frozen? ⟨w.heap.size, 20, none⟩ = false := KP.out.frozen 20
  have K1 := Lib.hid (show Blk (W.setCell ⟨w.heap.size, 20, none⟩ (.int .i64 p2)) w.heap.size 32 (X.set 20 (.int .i64 p2)).toArray by have := KP.out.set_ 20 (.int .i64 p2); simpa using this)
  have p21 : (W.setCell ⟨w.heap.size, 20, none⟩ (.int .i64 p2)).cell? ⟨w.heap.size, 21, none⟩ = some x21 := by rw [K1.out.cell 21]; simpa using hx21
  have f21 : (W.setCell ⟨w.heap.size, 20, none⟩ (.int .i64 p2)).frozen? ⟨w.heap.size, 21, none⟩ = false := K1.out.frozen 21
  have K2 := Lib.hid (show Blk ((W.setCell ⟨w.heap.size, 20, none⟩ (.int .i64 p2)).setCell ⟨w.heap.size, 21, none⟩ (.int .i64 a2)) w.heap.size 32 ((X.set 20 (.int .i64 p2)).set 21 (.int .i64 a2)).toArray by have := K1.out.set_ 21 (.int .i64 a2); simpa using this)
  have p22 : ((W.setCell ⟨w.heap.size, 20, none⟩ (.int .i64 p2)).setCell ⟨w.heap.size, 21, none⟩ (.int .i64 a2)).cell? ⟨w.heap.size, 22, none⟩ = some x22 := by rw [K2.out.cell 22]; simpa using hx22
  have f22 : ((W.setCell ⟨w.heap.size, 20, none⟩ (.int .i64 p2)).setCell ⟨w.heap.size, 21, none⟩ (.int .i64 a2)).frozen? ⟨w.heap.size, 22, none⟩ = false := K2.out.frozen 22
  have K3 := Lib.hid (show Blk (((W.setCell ⟨w.heap.size, 20, none⟩ (.int .i64 p2)).setCell ⟨w.heap.size, 21, none⟩ (.int .i64 a2)).setCell ⟨w.heap.size, 22, none⟩ (.bool c2)) w.heap.size 32 (((X.set 20 (.int .i64 p2)).set 21 (.int .i64 a2)).set 22 (.bool c2)).toArray by have := K2.out.set_ 22 (.bool c2); simpa using this)
  go_wp2_with fail
  refine wp_region_held_drew (S := fun w' => w'.cell? ⟨g, 20, none⟩ = some (.int .i64 p2) ∧ w'.cell? ⟨g, 21, none⟩ = some (.int .i64 a2) ∧ w'.cell? ⟨g, 22, none⟩ = some (.bool c2)) (by kernel_rfl) (Q20.out _ KQ.out) (fun hHeld => ?_)
  refine tk 0 hHeld ?_
  refine tk 1 hHeld ?_
  refine tk 2 hHeld ?_
  refine tk 3 hHeld ?_
  refine tk 4 hHeld ?_
  refine tk 5 hHeld ?_
  refine tk 6 hHeld ?_
  refine rd 7 (fun K hK => ?_)
  go_simp
  refine hK.out _ _ (Q20.out _ (KQ.out.far (p := ⟨w.heap.size, 20, none⟩) (by simp; omega) _)) (fun hHeld => ?_)
  clear hK K
  refine tk 8 hHeld ?_
  refine rd 9 (fun K hK => ?_)
  go_simp
  refine hK.out _ _ (Q20.out _ ((KQ.out.far (p := ⟨w.heap.size, 20, none⟩) (by simp; omega) _).far (p := ⟨w.heap.size, 21, none⟩) (by simp; omega) _)) (fun hHeld => ?_)
  clear hK K
  refine tk 10 hHeld ?_
  refine rd 11 (fun K hK => ?_)
  go_simp
  refine hK.out _ _ (Q20.out _ (((KQ.out.far (p := ⟨w.heap.size, 20, none⟩) (by simp; omega) _).far (p := ⟨w.heap.size, 21, none⟩) (by simp; omega) _).far (p := ⟨w.heap.size, 22, none⟩) (by simp; omega) _)) (fun hHeld => ?_)
  clear hK K
  refine wpAnyH_done (by kernel_rfl) ?_ _
  clear hHeld
  refine fin (fun W => Blk W w.heap.size 32 X'.toArray ∧ Blk W (w.heap.size + 1) 32 Z24.toArray ∧ Below w.heap.size w W) ⟨Hs.out ▸ Blk.drew (Blk.drew (Blk.drew (Blk.drew K3.out))), Blk.drew (Blk.drew (Blk.drew (Blk.drew (((KR.out.far (p := ⟨w.heap.size, 20, none⟩) (by simp) _).far (p := ⟨w.heap.size, 21, none⟩) (by simp) _).far (p := ⟨w.heap.size, 22, none⟩) (by simp) _)))), bdrewn (((HB.out.setCell (p := ⟨w.heap.size, 20, none⟩) (Nat.le_refl _) _).setCell (p := ⟨w.heap.size, 21, none⟩) (Nat.le_refl _) _).setCell (p := ⟨w.heap.size, 22, none⟩) (Nat.le_refl _) _)⟩ ?_
  rintro W2 ⟨kp, kr, hb⟩
  have KP2 := Lib.hid kp
  have KR2 := Lib.hid kr
  have HB2 := Lib.hid hb
  clear kp kr hb KP KR HB KQ
  go_wp2_with (first | refine wpList_store_mid rfl 32 (.tmp 3) (.tmp 13) rfl (w.heap.size + 1) 0 X'.toArray rfl rfl (blk_there KR2.out HZ.out) HS'.out HO.out ?_ | refine wpList_load_mid rfl 32 (.tmp 2) rfl w.heap.size 0 rfl X' _ (blk_whole KP2.out) Try.underlying32 rfl HS.out ?_)
  have KW := Lib.hid (splice_all HZ3.out ▸ blk_setCells X' KR2.out HZ2.out)
  refine fin (fun W => Blk W (w.heap.size + 1) 32 X'.toArray ∧ Below w.heap.size w W) ⟨KW.out, below_setCells _ HB2.out (by omega)⟩ ?_
  rintro W ⟨kr, hb⟩
  have hl := run_loadVar_mid W (w.heap.size + 1) 0 32 X' _ (blk_whole kr) Try.underlying32 rfl HS.out
  simp only [Act.put, List.setIfInBounds_toArray]
  exact bodyPost_ret (v := .agg X'.toArray) (results_cell Try.results87 rfl hl) rfl ⟨rfl, hb⟩

def capOf (g : Nat) (k : Int) : Array Value := if k = 4 then #[] else #[.pointer (some ⟨g, 0, none⟩)]
def clOf (k : Int) : Nat := if k = 0 then 85 else if k = 1 then 86 else if k = 2 then 87 else if k = 3 then 88 else 89
theorem enters_cl1 : Enters 85 := fun _ _ => by kernel_rfl
theorem enters_cl2 : Enters 86 := fun _ _ => by kernel_rfl
theorem enters_cl3 : Enters 87 := fun _ _ => by kernel_rfl
theorem enters_cl4 : Enters 88 := fun _ _ => by kernel_rfl
theorem enters_cl5 : Enters 89 := fun _ _ => by kernel_rfl
theorem cl_enters {k : Int} (hk : kOk k = true) : Enters (clOf k) := by
  have e : ∀ j : Int, clOf j = (if j = 0 then 85 else if j = 1 then 86 else if j = 2 then 87 else if j = 3 then 88 else 89) := fun _ => rfl
  rcases kOk_cases hk with rfl | rfl | rfl | rfl | rfl
  · rw [e, if_pos (by omega)]; exact enters_cl1
  · rw [e, if_neg (by omega), if_pos (by omega)]; exact enters_cl2
  · rw [e, if_neg (by omega), if_neg (by omega), if_pos (by omega)]; exact enters_cl3
  · rw [e, if_neg (by omega), if_neg (by omega), if_neg (by omega), if_pos (by omega)]; exact enters_cl4
  · rw [e, if_neg (by omega), if_neg (by omega), if_neg (by omega), if_neg (by omega)]; exact enters_cl5
theorem cl_any {k : Int} (hk : kOk k = true) (g : Nat) (P Q : PT) (w : World) (kq : Blk w g 32 (pl Q).toArray) :
    Calls Try.prog (clOf k) (#[.agg (pl P).toArray] ++ capOf g k) w fun e w' => e = .returned (.agg (pl (layT k P Q)).toArray) ∧ Below w.heap.size w w' := by
  obtain ⟨h, M, m, B, p, a, c, l⟩ := P
  obtain ⟨h2, N, m2, B2, p2, a2, c2, l2⟩ := Q
  rcases kOk_cases hk with rfl | rfl | rfl | rfl | rfl
  · exact cl_place _ _ (PL h N m B p a c l) g _ rfl rfl (all_oneCell_toArray (fun v hv => by
      have e : ((PL h2 N m2 B2 p2 a2 c2 l2).drop 1).take 12 = [.int .i64 (N 0), .int .i64 (N 1), .int .i64 (N 2), .int .i64 (N 3), .int .i64 (N 4), .int .i64 (N 5), .int .i64 (N 6), .int .i64 (N 7), .int .i64 (N 8), .int .i64 (N 9), .int .i64 (N 10), .int .i64 (N 11)] := rfl
      have hv : v ∈ [.int .i64 (N 0), .int .i64 (N 1), .int .i64 (N 2), .int .i64 (N 3), .int .i64 (N 4), .int .i64 (N 5), .int .i64 (N 6), .int .i64 (N 7), .int .i64 (N 8), .int .i64 (N 9), .int .i64 (N 10), .int .i64 (N 11)] := hv
      simp only [List.mem_cons, List.not_mem_nil, or_false] at hv
      rcases hv with rfl | rfl | rfl | rfl | rfl | rfl | rfl | rfl | rfl | rfl | rfl | rfl <;> rfl)) rfl w kq rfl rfl (PL_one _ _ _ _ _ _ _ _)
  · exact cl_shape _ _ (PL h M m2 B2 p a c l) g _ m2 (.int .i64 m) rfl rfl rfl rfl (all_oneCell_toArray (fun v hv => by
      have hv : v ∈ [.int .i64 (B2 0), .int .i64 (B2 1), .int .i64 (B2 2), .int .i64 (B2 3), .int .i64 (B2 4), .int .i64 (B2 5)] := hv
      simp only [List.mem_cons, List.not_mem_nil, or_false] at hv
      rcases hv with rfl | rfl | rfl | rfl | rfl | rfl <;> rfl)) rfl w kq rfl rfl (PL_one _ _ _ _ _ _ _ _)
  · exact cl_paint _ _ (PL h M m B p2 a2 c2 l) g p2 a2 c2 (.int .i64 p) (.int .i64 a) (.bool c) rfl rfl rfl rfl rfl rfl rfl w kq rfl rfl (PL_one _ _ _ _ _ _ _ _)
  · exact cl_layer _ _ (PL h M m B p a c l2) g l2 (.int .i64 l) rfl rfl rfl w kq rfl rfl (PL_one _ _ _ _ _ _ _ _)
  · exact cl_hide _ (PL h M m B p a c l) rfl w rfl rfl (PL_one _ _ _ _ _ _ _ _)

theorem set_last (w : World) (o o' : Obj) : ({ w.alloc o with heap := (w.alloc o).heap.setIfInBounds w.heap.size o' } : World) = w.alloc o' := by
  have h : (w.alloc o).heap.setIfInBounds w.heap.size o' = (w.alloc o').heap := by
    show (w.heap.push o).setIfInBounds w.heap.size o' = w.heap.push o'
    refine Array.ext' ?_
    rw [Array.toList_setIfInBounds, Array.toList_push, Array.toList_push, ← Array.length_toList, List.set_append_right _ _ (Nat.le_refl _)]
    simp
  rw [h]
  rfl
theorem kind_law : Go.Maps.Keyed Try.prog 64 := Go.Maps.int_keyed Try.underlying64
theorem run_find {w : World} {es : List MapEntry} {k : Int} {r : Option (Nat × Value)} (h : Instr.findNow (.int .i64) (.int .i64 k) es 0 = some r) : (Instr.findKey 64 (.int .i64 k) es).run Try.prog w = .ok r w := by
  unfold Instr.findKey
  simp only [Sem.run_bind, run_underlying Try.underlying64, Result.andThen, h]
  rfl
theorem kind_key {k : Int} (hk : kOk k = true) : keyOf Try.prog 64 (.int .i64 k) = some (.int .i64 k) := by
  refine Go.Maps.keyOf_int_mk Try.underlying64 ?_
  rcases kOk_cases hk with rfl | rfl | rfl | rfl | rfl <;> decide
theorem run_put (w : World) (es : Array MapEntry) (n b : Nat) (hb : w.heap.size = b) {k : Int} (hk : kOk k = true) (v : Value) (hn : Instr.findNow (.int .i64) (.int .i64 k) es.toList 0 = some none) :
    (Instr.mapUpdate 130 (.map (some b)) (.int .i64 k) v).run Try.prog (w.alloc (.map es n)) = .ok () (w.alloc (.map (es.push ⟨.int .i64 k, v, n⟩) (n + 1))) := by
  subst hb
  have hh : (w.alloc (.map es n)).heap[w.heap.size]? = some (.map es n) := heap_alloc_new w (.map es n)
  simp [Instr.mapUpdate, run_underlying Try.underlying130, MapKept.run_getObj_map hh, kind_law.check (w.alloc (.map es n)) false (kind_key hk), run_find hn, MapKept.run_setObj_map _ hh, Result.andThen]
  exact set_last w _ _
theorem run_get {w : World} {es : Array MapEntry} {n b : Nat} (hb : w.heap[b]? = some (.map es n)) {k : Int} (hk : kOk k = true) {i : Nat} {v : Value} (hf : Instr.findNow (.int .i64) (.int .i64 k) es.toList 0 = some (some (i, v))) :
    (Instr.lookup 130 (.map (some b)) (.int .i64 k) false).run Try.prog w = .ok v w := by
  simp [Instr.lookup, run_underlying Try.underlying130, MapKept.run_getObj_map hb, kind_law.check w _ (kind_key hk), run_find hf, Result.andThen]
def laysE (g : Nat) : Array MapEntry := #[⟨.int .i64 0, .func (.func (clOf 0)) #[] (capOf g 0), 0⟩, ⟨.int .i64 1, .func (.func (clOf 1)) #[] (capOf g 1), 1⟩, ⟨.int .i64 2, .func (.func (clOf 2)) #[] (capOf g 2), 2⟩, ⟨.int .i64 3, .func (.func (clOf 3)) #[] (capOf g 3), 3⟩, ⟨.int .i64 4, .func (.func (clOf 4)) #[] (capOf g 4), 4⟩]
theorem lays_get {w : World} {b g : Nat} (hb : w.heap[b]? = some (.map (laysE g) 5)) {k : Int} (hk : kOk k = true) :
    (Instr.lookup 130 (.map (some b)) (.int .i64 k) false).run Try.prog w = .ok (.func (.func (clOf k)) #[] (capOf g k)) w := by
  rcases kOk_cases hk with rfl | rfl | rfl | rfl | rfl
  · exact run_get hb hk (i := 0) rfl
  · exact run_get hb hk (i := 1) rfl
  · exact run_get hb hk (i := 2) rfl
  · exact run_get hb hk (i := 3) rfl
  · exact run_get hb hk (i := 4) rfl

set_option maxHeartbeats 1000000 in
set_option maxRecDepth 100000 in
theorem layings_any (X : List Value) (w : World) :
    Calls Try.prog 83 #[.agg X.toArray] w fun e w' => e = .returned (.map (some (w.heap.size + 1))) ∧ w' = (w.alloc (.cells X.toArray 32)).alloc (.map (laysE w.heap.size) 5) := by
  have hmm := @run_makeMap Try.prog
  have hp0 := run_put (w.alloc (.cells X.toArray 32)) #[] 0 (w.heap.size + 1) (by simp) (k := 0) rfl (.func (.func (clOf 0)) #[] (capOf w.heap.size 0)) rfl
  have hp1 := run_put (w.alloc (.cells X.toArray 32)) #[⟨.int .i64 0, .func (.func (clOf 0)) #[] (capOf w.heap.size 0), 0⟩] 1 (w.heap.size + 1) (by simp) (k := 1) rfl (.func (.func (clOf 1)) #[] (capOf w.heap.size 1)) rfl
  have hp2 := run_put (w.alloc (.cells X.toArray 32)) #[⟨.int .i64 0, .func (.func (clOf 0)) #[] (capOf w.heap.size 0), 0⟩, ⟨.int .i64 1, .func (.func (clOf 1)) #[] (capOf w.heap.size 1), 1⟩] 2 (w.heap.size + 1) (by simp) (k := 2) rfl (.func (.func (clOf 2)) #[] (capOf w.heap.size 2)) rfl
  have hp3 := run_put (w.alloc (.cells X.toArray 32)) #[⟨.int .i64 0, .func (.func (clOf 0)) #[] (capOf w.heap.size 0), 0⟩, ⟨.int .i64 1, .func (.func (clOf 1)) #[] (capOf w.heap.size 1), 1⟩, ⟨.int .i64 2, .func (.func (clOf 2)) #[] (capOf w.heap.size 2), 2⟩] 3 (w.heap.size + 1) (by simp) (k := 3) rfl (.func (.func (clOf 3)) #[] (capOf w.heap.size 3)) rfl
  have hp4 := run_put (w.alloc (.cells X.toArray 32)) #[⟨.int .i64 0, .func (.func (clOf 0)) #[] (capOf w.heap.size 0), 0⟩, ⟨.int .i64 1, .func (.func (clOf 1)) #[] (capOf w.heap.size 1), 1⟩, ⟨.int .i64 2, .func (.func (clOf 2)) #[] (capOf w.heap.size 2), 2⟩, ⟨.int .i64 3, .func (.func (clOf 3)) #[] (capOf w.heap.size 3), 3⟩] 4 (w.heap.size + 1) (by simp) (k := 4) rfl (.func (.func (clOf 4)) #[] (capOf w.heap.size 4)) rfl
  rw [show clOf 0 = 85 from rfl, show capOf w.heap.size 0 = #[.pointer (some ⟨w.heap.size, 0, none⟩)] from rfl] at hp0 hp1 hp2 hp3 hp4
  rw [show clOf 1 = 86 from rfl, show capOf w.heap.size 1 = #[.pointer (some ⟨w.heap.size, 0, none⟩)] from rfl] at hp1 hp2 hp3 hp4
  rw [show clOf 2 = 87 from rfl, show capOf w.heap.size 2 = #[.pointer (some ⟨w.heap.size, 0, none⟩)] from rfl] at hp2 hp3 hp4
  rw [show clOf 3 = 88 from rfl, show capOf w.heap.size 3 = #[.pointer (some ⟨w.heap.size, 0, none⟩)] from rfl] at hp3 hp4
  rw [show clOf 4 = 89 from rfl, show capOf w.heap.size 4 = #[] from rfl] at hp4
  simp only [List.push_toArray, List.nil_append, List.cons_append] at hp0 hp1 hp2 hp3 hp4
  go_enter Try.func83, Try.ntmps83
  go_wp2
  go_ret
  exact ⟨rfl, rfl⟩

end Go.Proofs.Ytffbehcbokmpkaa
