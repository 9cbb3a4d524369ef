/-
  What the reference's All, Same and Has of layer 5 answer.
-/
import Derived.Test.YtiniflddgnbngaaPolA
import Derived.Deep.QuietTactic
import Derived.Maps.AppendAt
namespace Go.Proofs.Ytiniflddgnbngaa
open Go.RowKit

/-- the names that live, of the first k indexes -/
def allL (G : Nat → Int) (L : Nat → Bool) (k : Nat) : List Int := ((List.range k).filter L).map fun i => nm (G i) i
theorem all_yes {G : Nat → Int} {L : Nat → Bool} {k : Nat} (h : L k = true) : allL G L (k + 1) = allL G L k ++ [nm (G k) k] := by
  unfold allL; rw [List.range_succ, List.filter_append, List.map_append]; simp [h]
theorem all_no {G : Nat → Int} {L : Nat → Bool} {k : Nat} (h : L k = false) : allL G L (k + 1) = allL G L k := by
  unfold allL; rw [List.range_succ, List.filter_append, List.map_append]; simp [h]
theorem all_len (G : Nat → Int) (L : Nat → Bool) (k : Nat) : (allL G L k).length ≤ k := by
  unfold allL; rw [List.length_map]; exact Nat.le_trans (List.length_filter_le _ _) (by simp)

/-- names that the call itself appends -/
def OwnD (w : World) (base : Nat) (v : Value) (n : Nat) (zs : List Int) : Prop := w.ownsRow base 23 1 v n (zs.map (Value.int .i64))
theorem id_info : (Try.prog.info? 23).map (fun i => (i.zero, i.size, i.bytes)) = some (some (.int .i64 0), 1, 8) := by kernel_rfl
theorem OwnD.nil (w : World) (base : Nat) : OwnD w base (.slice none 0 0) 0 [] := World.ownsRow_nil _ _ _ _
theorem OwnD.row {w : World} {base : Nat} {v : Value} {n : Nat} {zs : List Int} (h : OwnD w base v n zs) : ∃ a cap, v = .slice a n cap ∧ Row w a n zs := by
  have hl : zs.length = n := by simpa using h.1
  rcases h.2 with ⟨rfl, rfl⟩ | ⟨g, cap, cur, rfl, hb, hh, hnc, hm, hs, ht⟩
  · exact ⟨none, 0, rfl, hl, by omega, Or.inl rfl⟩
  · unfold maxLen at hm
    refine ⟨_, cap, rfl, hl, by omega, Or.inr ⟨g, 0, rfl, fun i hi => ?_⟩⟩
    rw [Nat.zero_add]
    have hi' : i < (zs.map (Value.int .i64)).length := by rw [List.length_map]; omega
    have hc := World.ownsRow.cellAt (j := i) h (by omega)
    rw [hc]
    simp [List.getD, List.getElem?_eq_getElem (show i < zs.length by omega)]
theorem grownD_below {w0 wr w' : World} {base B : Nat} {v : Value} {n : Nat} {zs : List Int} {o : Obj} (ho : OwnD wr base v n zs) (hB : B ≤ base) (hb : Below B w0 wr) (hs : B ≤ wr.heap.size) (hg : (wr.alloc o).grownBy w' v.ownBlock) : Below B w0 w' :=
  (hb.alloc hs o).grown hg (by simp; omega) (fun k hk => by have := World.ownsRow.lt ho k hk; omega)

set_option maxHeartbeats 1000000 in
theorem pall_any (g : Nat) (R : Int) (G : Nat → Int) (L : Nat → Bool) (w : World) (hG : GenOk G) (row : w.rowIs g 33 513 (poolF R G L)) :
    Calls Try.prog 9 #[.pointer (some ⟨g, 0, none⟩)] w fun e w' => ∃ a cap, e = .returned (.slice a (allL G L 256).length cap) ∧ Row w' a (allL G L 256).length (allL G L 256) ∧ Below w.heap.size w w' := by
  have HRow := Lib.hid row
  have HG := Lib.hid hG
  clear row hG
  obtain ⟨i0, hi0, hz0, hz1, hz2⟩ := info_parts id_info
  have HI := Lib.hid (And.intro hi0 (And.intro hz0 (And.intro hz1 hz2)))
  clear hi0 hz0 hz1 hz2
  go_enter Try.func9, Try.ntmps9
  go_wp2
  go_loopw [3, 4] (fun v i wr => ∃ k : Nat, k ≤ 256 ∧ i = .int .i64 k ∧ OwnD wr w.heap.size v (allL G L k).length (allL G L k) ∧ Below w.heap.size w wr) (fun _ i _ => 256 - (intOf i).toNat)
  case atStart => exact ⟨0, by omega, rfl, OwnD.nil _ _, Below.refl _ _⟩
  case round =>
    obtain ⟨k, hk, rfl, hown, hb⟩ := hrel
    have HOwn := Lib.hid hown
    have HB := Lib.hid hb
    clear hown hb
    have HR2 := Lib.hid (World.rowIs.keep HRow.out HB.out)
    by_cases hlt : k < 256
    · have cl := pool_live HR2.out hlt
      have cg := pool_gen HR2.out hlt
      have hk0 : (0 : Int) ≤ (k : Int) := by omega
      have hk1 : (k : Int) < 256 := by omega
      have hyb := HG.out k hlt
      have zg : g < wr.heap.size := HR2.out.lt
      have hle := all_len G L k
      obtain ⟨y, hy⟩ : ∃ y, y = G k := ⟨_, rfl⟩
      rw [← hy] at cg hyb
      have HY := Lib.hid hy
      clear hy
      by_cases hL : L k = true
      · rw [hL] at cl
        have HA := Lib.hid (all_yes (G := G) hL)
        clear hL
        obtain ⟨n, hn⟩ : ∃ n, n = (allL G L k).length := ⟨_, rfl⟩
        rw [← hn] at HOwn hle
        have HN := Lib.hid hn
        clear hn
        have hw1 : IntKind.i64.wrap (256 * y) = 256 * y := IntWalk.i64_in _ (by omega)
        have hw2 : IntKind.i64.wrap (256 * y + (k : Int)) = 256 * y + (k : Int) := IntWalk.i64_in _ (by omega)
        have hsz : w.heap.size ≤ wr.heap.size := HB.out.size
        go_wp2_with (at_builtin; refine wpList_append_own _ rfl (.tmp 15) (.tmp 25) 36 rfl w.heap.size 23 i0 (.int .i64 0) 1 8 Try.underlying36 HI.out.1 HI.out.2.1 HI.out.2.2.1 HI.out.2.2.2 rfl (by decide) _ _ _ rfl (HOwn.out.alloc _) ⟨wr.heap.size, 0, none⟩ 1 1 [.int .i64 (256 * y + (k : Int))] rfl rfl (cell_one_new _ _ _) (by intro u hu; simp at hu; subst hu; rfl) (by unfold maxLen; omega) (by omega) (by simp; omega) ?_)
        intro v' w2 hown' hgrow _
        have HOwn' := Lib.hid hown'
        have HGr := Lib.hid hgrow
        clear hown' hgrow
        go_wp2
        go_roundw
        case rel =>
          have el : (allL G L (k + 1)).length = n + 1 := by rw [HA.out, List.length_append, ← HN.out]; rfl
          refine ⟨k + 1, by omega, by go_num, ?_, grownD_below HOwn.out (Nat.le_refl _) HB.out hsz HGr.out⟩
          rw [el]
          unfold OwnD
          rw [HA.out, List.map_append]
          have hv : nm (G k) k = 256 * y + (k : Int) := by rw [HY.out]; rfl
          rw [hv]
          exact HOwn'.out
        case measure => simp [intOf] <;> omega
      · have hL' : L k = false := by simpa using hL
        rw [hL'] at cl
        have HA := Lib.hid (all_no (G := G) hL')
        clear hL hL'
        go_wp2
        go_roundw
        case rel => exact ⟨k + 1, by omega, by go_num, by rw [HA.out]; exact HOwn.out, HB.out⟩
        case measure => simp [intOf] <;> omega
    · obtain rfl : k = 256 := by omega
      obtain ⟨a, cap, rfl, hr⟩ := HOwn.out.row
      have HA := Lib.hid hr
      clear hr
      go_wp2
      go_ret
      exact ⟨a, cap, rfl, HA.out, HB.out⟩

theorem row_at {w : World} {a : Option Addr} {len : Nat} {zs : List Int} (h : Row w a len zs) {k : Nat} (hk : k < len) : ∃ b off x, a = some ⟨b, off, none⟩ ∧ zs[k]? = some x ∧ w.cell? ⟨b, off + k, none⟩ = some (.int .i64 x) := by
  obtain ⟨h1, h2, h3⟩ := h
  rcases h3 with h3 | ⟨b, off, rfl, hc⟩
  · omega
  · have hk' : k < zs.length := by omega
    have c := hc k hk
    rw [show zs.getD k 0 = zs[k] by simp [List.getD, List.getElem?_eq_getElem hk']] at c
    exact ⟨b, off, _, rfl, List.getElem?_eq_getElem hk', c⟩

set_option maxHeartbeats 1000000 in
theorem phas_any (a : Option Addr) (len cap : Nat) (zs : List Int) (x : Int) (w : World) (row : Row w a len zs) :
    Calls Try.prog 20 #[.slice a len cap, .int .i64 x] w fun e w' => e = .returned (.bool (decide (x ∈ zs))) ∧ w = w' := by
  have HL := Lib.hid row.1
  have hbig := row.2.1
  have HRow := Lib.hid row
  clear row
  go_enter Try.func20, Try.ntmps20
  go_wp2
  go_loopw [5] (fun i wr => ∃ k : Nat, k ≤ len ∧ i = .int .i64 k ∧ (x ∉ zs.take k) ∧ wr = w) (fun i _ => len - (intOf i).toNat)
  case atStart => exact ⟨0, by omega, rfl, by simp, rfl⟩
  case round =>
    obtain ⟨k, hk, rfl, hz, rfl⟩ := hrel
    have HZ := Lib.hid hz
    clear hz
    by_cases hlt : k < len
    · obtain ⟨b, off, y, rfl, hv, c0⟩ := row_at HRow.out hlt
      have HV := Lib.hid hv
      clear hv
      have hk0 : (0 : Int) ≤ (k : Int) := by omega
      have hk1 : (k : Int) < (len : Int) := by omega
      by_cases he : y = x
      · have ge : (y == x) = true := by rw [he]; simp
        have HE := Lib.hid he
        clear he
        go_wp2
        go_ret
        exact ⟨by rw [show decide (x ∈ zs) = true by rw [← HE.out]; simpa using List.mem_of_getElem? HV.out]; rfl, rfl⟩
      · have ge : (y == x) = false := by simpa using he
        have HE := Lib.hid (show x ∉ zs.take (k + 1) by
          rw [List.take_add_one, HV.out]
          simp only [Option.toList_some, List.mem_append, List.mem_singleton, not_or]
          exact ⟨HZ.out, fun e => he e.symm⟩)
        clear he
        go_wp2
        go_roundw
        case rel => exact ⟨k + 1, by omega, by go_num, HE.out, by trivial⟩
        case measure => simp [intOf] <;> omega
    · obtain rfl : k = len := by omega
      have e1 := HZ.out
      rw [List.take_of_length_le (by rw [HL.out]; exact Nat.le_refl _)] at e1
      have HE := Lib.hid e1
      clear e1
      go_wp2
      go_ret
      exact ⟨by rw [show decide (x ∈ zs) = false by simpa using HE.out]; rfl, rfl⟩

set_option maxHeartbeats 1000000 in
theorem psame_any (a b : Option Addr) (n m cap cap' : Nat) (xs ys : List Int) (w : World) (row : Row w a n xs) (row' : Row w b m ys) :
    Calls Try.prog 13 #[.slice a n cap, .slice b m cap'] w fun e w' => e = .returned (.bool (decide (xs = ys))) ∧ Below w.heap.size w w' := by
  have HL := Lib.hid (And.intro row.1 row'.1)
  have hbig := row.2.1
  have HRow := Lib.hid row
  have HRow' := Lib.hid row'
  clear row row'
  by_cases hnm : n = m
  · subst hnm
    go_enter Try.func13, Try.ntmps13
    go_wp2
    go_loopw [5] (fun i wr => ∃ k : Nat, k ≤ n ∧ i = .int .i64 k ∧ xs.take k = ys.take k ∧ Below w.heap.size w wr) (fun i _ => n - (intOf i).toNat)
    case atStart => exact ⟨0, by omega, rfl, by simp, Below.refl _ _⟩
    case round =>
      obtain ⟨k, hk, rfl, hz, hb⟩ := hrel
      have HZ := Lib.hid hz
      have HB := Lib.hid hb
      clear hz hb
      by_cases hlt : k < n
      · obtain ⟨p, off, x, rfl, hv, c0⟩ := row_at (row_keep HRow.out HB.out) hlt
        obtain ⟨p', off', y, rfl, hv', c1⟩ := row_at (row_keep HRow'.out HB.out) hlt
        have HV := Lib.hid (And.intro hv hv')
        clear hv hv'
        have hk0 : (0 : Int) ≤ (k : Int) := by omega
        have hk1 : (k : Int) < (n : Int) := by omega
        by_cases he : x = y
        · have HE := Lib.hid (show xs.take (k + 1) = ys.take (k + 1) by rw [List.take_add_one, List.take_add_one, HV.out.1, HV.out.2, HZ.out, he])
          subst he
          go_wp2
          go_quiet (fail)
          go_wp2
          go_roundw
          case rel => exact ⟨k + 1, by omega, by go_num, HE.out, Go.below_drewN HB.out nq⟩
          case measure => simp [intOf] <;> omega
        · have ge : (x != y) = true := by simpa using he
          have HE := Lib.hid (show xs ≠ ys from fun e => he (by have h1 := HV.out.1; rw [e, HV.out.2] at h1; exact (Option.some.inj h1).symm))
          clear he
          go_wp2
          go_quiet (fail)
          go_wp2
          go_ret
          exact ⟨by rw [show decide (xs = ys) = false by simpa using HE.out]; rfl, Go.below_drewN HB.out nq⟩
      · obtain rfl : k = n := by omega
        have e1 := HZ.out
        rw [List.take_of_length_le (by rw [HL.out.1]; exact Nat.le_refl _), List.take_of_length_le (by rw [HL.out.2]; exact Nat.le_refl _)] at e1
        have HE := Lib.hid e1
        clear e1
        go_wp2
        go_ret
        exact ⟨by rw [show decide (xs = ys) = true by simpa using HE.out]; rfl, HB.out⟩
  · have gn : ((n : Int) != (m : Int)) = true := by simp; omega
    have HE := Lib.hid (show xs ≠ ys from fun e => hnm (by rw [← HL.out.1, ← HL.out.2, e]))
    clear hnm
    go_enter Try.func13, Try.ntmps13
    go_wp2
    go_ret
    exact ⟨by rw [show decide (xs = ys) = false by simpa using HE.out]; rfl, Below.refl _ _⟩

end Go.Proofs.Ytiniflddgnbngaa
