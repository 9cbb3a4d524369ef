/-
  What the program's bit, within, Of, Kinds and Has of layer 6 answer.
-/
import Derived.Test.YtpobnmcjmclgbaaPrtH
import Derived.Deep.QuietTactic
import Derived.Maps.AppendAt
namespace Go.Proofs.Ytpobnmcjmclgbaa
open Go.RowKit

set_option maxHeartbeats 400000 in
set_option maxRecDepth 100000 in
theorem pbit_any {k : Int} (hk : kOk k = true) (w : World) :
    Calls Try.prog 55 #[.int .i64 k] w fun e w' => e = .returned (.int .i64 (2 ^ k.toNat)) ∧ w = w' := by
  rcases kOk_cases hk with rfl | rfl | rfl | rfl | rfl
  all_goals
    clear hk
    go_enter Try.func55, Try.ntmps55
    go_wp2
    go_ret
    exact ⟨rfl, rfl⟩

set_option maxHeartbeats 400000 in
set_option maxRecDepth 100000 in
theorem pin_b (n m : Int) (w : World) :
    Calls Try.prog 36 #[.int .i64 n, .int .i64 m] w fun e w' => e = .returned (.bool (inB n m)) ∧ w = w' := by
  unfold inB
  by_cases h1 : 0 ≤ n
  · have g1 : decide (0 ≤ n) = true := by simpa using h1
    go_enter Try.func36, Try.ntmps36
    go_wp2
    go_ret
    exact ⟨by rw [g1]; rfl, rfl⟩
  · have g1 : decide (0 ≤ n) = false := by simpa using h1
    go_enter Try.func36, Try.ntmps36
    go_wp2
    go_ret
    exact ⟨rfl, rfl⟩
theorem pin_bb {n m : Int} {b : Bool} (h : inB n m = b) (w : World) :
    Calls Try.prog 36 #[.int .i64 n, .int .i64 m] w fun e w' => e = .returned (.bool b) ∧ w = w' := (pin_b n m w).mono fun _ _ ⟨he, hw⟩ => ⟨by rw [he, h], hw⟩

theorem kind_info : (Try.prog.info? 68).map (fun i => (i.zero, i.size, i.bytes)) = some (some (.int .i64 0), 1, 8) := by kernel_rfl
/-- kinds that the call itself appends -/
def OwnK (w : World) (base : Nat) (v : Value) (n : Nat) (zs : List Int) : Prop := w.ownsRow base 68 1 v n (zs.map (Value.int .i64))
theorem OwnK.nil (w : World) (base : Nat) : OwnK w base (.slice none 0 0) 0 [] := World.ownsRow_nil _ _ _ _
theorem OwnK.row {w : World} {base : Nat} {v : Value} {n : Nat} {zs : List Int} (h : OwnK w base v n zs) : ∃ a cap, v = .slice a n cap ∧ Row w a n zs := by
  have hl : zs.length = n := by simpa using h.1
  rcases h.2 with ⟨rfl, rfl⟩ | ⟨g, cap, cur, rfl, hb, hh, hnc, hm, hs, ht⟩
  · exact ⟨none, 0, rfl, hl, by omega, Or.inl rfl⟩
  · unfold maxLen at hm
    refine ⟨_, cap, rfl, hl, by omega, Or.inr ⟨g, 0, rfl, fun i hi => ?_⟩⟩
    rw [Nat.zero_add]
    have hi' : i < (zs.map (Value.int .i64)).length := by rw [List.length_map]; omega
    have hc := World.ownsRow.cellAt (j := i) h (by omega)
    rw [hc]
    simp [List.getD, List.getElem?_eq_getElem (show i < zs.length by omega)]
theorem grownK_below {w0 wr w' : World} {base B : Nat} {v : Value} {n : Nat} {zs : List Int} {o : Obj} (ho : OwnK wr base v n zs) (hB : B ≤ base) (hb : Below B w0 wr) (hs : B ≤ wr.heap.size) (hg : (wr.alloc o).grownBy w' v.ownBlock) : Below B w0 w' :=
  (hb.alloc hs o).grown hg (by simp; omega) (fun k hk => by have := World.ownsRow.lt ho k hk; omega)

set_option maxHeartbeats 1000000 in
set_option maxRecDepth 100000 in
theorem pkinds_any (s : Int) (w : World) :
    Calls Try.prog 39 #[.int .i64 s] w fun e w' => ∃ a cap, e = .returned (.slice a (kindsL s).length cap) ∧ Row w' a (kindsL s).length (kindsL s) ∧ Below w.heap.size w w' := by
  obtain ⟨i0, hi0, hz0, hz1, hz2⟩ := info_parts kind_info
  have HI := Lib.hid (And.intro hi0 (And.intro hz0 (And.intro hz1 hz2)))
  clear hi0 hz0 hz1 hz2
  go_enter Try.func39, Try.ntmps39
  go_wp2
  go_loopw [3, 5] (fun v i wr => ∃ k : Nat, k ≤ 5 ∧ i = .int .i64 k ∧ OwnK wr w.heap.size v (kindsTo s k).length (kindsTo s k) ∧ Below w.heap.size w wr) (fun _ i _ => 5 - (intOf i).toNat)
  case atStart => exact ⟨0, by omega, rfl, OwnK.nil _ _, Below.refl _ _⟩
  case round =>
    obtain ⟨k, hk, rfl, hown, hb⟩ := hrel
    have HOwn := Lib.hid hown
    have HB := Lib.hid hb
    clear hown hb
    by_cases hlt : k < 5
    · have hk0 : (0 : Int) ≤ (k : Int) := by omega
      have hk1 : (k : Int) < 5 := by omega
      have HK : Hid (kOk (k : Int) = true) := Lib.hid (by unfold kOk; simp; omega)
      have hle := kindsTo_len s k
      have ha := and_one s HK.out
      by_cases hL : hasB s (k : Int) = true
      · rw [hL] at ha
        have HA := Lib.hid (kindsTo_yes hL)
        clear hL
        obtain ⟨n, hn⟩ : ∃ n, n = (kindsTo s k).length := ⟨_, rfl⟩
        rw [← hn] at HOwn hle
        have HN := Lib.hid hn
        clear hn
        have hsz : w.heap.size ≤ wr.heap.size := HB.out.size
        go_wp2_with fail
        refine (pbit_any HK.out _).mono ?_
        rintro e w1 ⟨rfl, rfl⟩
        obtain ⟨t, ht⟩ : ∃ t, t = (2 : Int) ^ (k : Int).toNat := ⟨_, rfl⟩
        rw [← ht] at ha
        rw [← ht]
        clear ht
        go_wp2_with (at_builtin; refine wpList_append_own _ rfl (.tmp 13) (.tmp 15) 90 rfl w.heap.size 68 i0 (.int .i64 0) 1 8 Try.underlying90 HI.out.1 HI.out.2.1 HI.out.2.2.1 HI.out.2.2.2 rfl (by decide) _ _ _ rfl (HOwn.out.alloc _) ⟨wr.heap.size, 0, none⟩ 1 1 [.int .i64 (k : Int)] rfl rfl (cell_one_new _ _ _) (by intro u hu; simp at hu; subst hu; rfl) (by unfold maxLen; omega) (by omega) (by simp; omega) ?_)
        intro v' w2 hown' hgrow _
        have HOwn' := Lib.hid hown'
        have HGr := Lib.hid hgrow
        clear hown' hgrow
        go_wp2
        go_roundw
        case rel =>
          have el : (kindsTo s (k + 1)).length = n + 1 := by rw [HA.out, List.length_append, ← HN.out]; rfl
          refine ⟨k + 1, by omega, by go_num, ?_, grownK_below HOwn.out (Nat.le_refl _) HB.out hsz HGr.out⟩
          rw [el]
          unfold OwnK
          rw [HA.out, List.map_append]
          exact HOwn'.out
        case measure => simp [intOf] <;> omega
      · have hL' : hasB s (k : Int) = false := by simpa using hL
        rw [hL'] at ha
        have HA := Lib.hid (kindsTo_no hL')
        clear hL hL'
        go_wp2_with fail
        refine (pbit_any HK.out _).mono ?_
        rintro e w1 ⟨rfl, rfl⟩
        obtain ⟨t, ht⟩ : ∃ t, t = (2 : Int) ^ (k : Int).toNat := ⟨_, rfl⟩
        rw [← ht] at ha
        rw [← ht]
        clear ht
        go_wp2
        go_roundw
        case rel => exact ⟨k + 1, by omega, by go_num, by rw [HA.out]; exact HOwn.out, HB.out⟩
        case measure => simp [intOf] <;> omega
    · obtain rfl : k = 5 := by omega
      rw [kindsTo_all] at HOwn
      obtain ⟨a, cap, rfl, hr⟩ := HOwn.out.row
      have HA := Lib.hid hr
      clear hr
      go_wp2
      go_ret
      exact ⟨a, cap, rfl, HA.out, HB.out⟩

end Go.Proofs.Ytpobnmcjmclgbaa
