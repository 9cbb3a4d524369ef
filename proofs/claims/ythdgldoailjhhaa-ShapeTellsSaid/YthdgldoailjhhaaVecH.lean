/-
  What the reference of layer 2 answers: One, Right and Add.
-/
import Derived.Test.YthdgldoailjhhaaVecL
import Derived.Maps.AppendAt
namespace Go.Proofs.Ythdgldoailjhhaa
open Go.RowKit

theorem rright3 {w : World} {g cap : Nat} {t : TypeId} {x y z : Int} (h : Blk w g t #[.int .i64 x, .int .i64 y, .int .i64 z]) :
    Calls Try.prog 28 #[.slice (some ⟨g, 0, none⟩) 3 cap] w fun e w' => e = .returned (.bool (ok3 x y z)) ∧ w = w' :=
  rright_any _ 3 cap [x, y, z] w (row3 h)

set_option maxHeartbeats 400000 in
theorem rone_any (x y z : Int) (w : World) :
    Calls Try.prog 36 #[.agg #[.int .i64 x, .int .i64 y, .int .i64 z]] w fun e w' => e = .returned (.bool (ok3 x y z)) ∧ Below w.heap.size w w' := by
  go_enter Try.func36, Try.ntmps36
  go_wp2_with (go_at_call 28; refine (rright3 (Blk.new _ _ _)).mono ?_; rintro e w' ⟨rfl, rfl⟩)
  go_ret
  exact ⟨rfl, alloc_below _ _⟩

theorem rone_yes {x y z : Int} (h : ok3 x y z = true) (w : World) :
    Calls Try.prog 36 #[.agg #[.int .i64 x, .int .i64 y, .int .i64 z]] w fun e w' => e = .returned (.bool true) ∧ Below w.heap.size w w' :=
  (rone_any x y z w).mono fun _ _ ⟨he, hw⟩ => ⟨by rw [he, h], hw⟩
theorem rone_no {x y z : Int} (h : ok3 x y z = false) (w : World) :
    Calls Try.prog 36 #[.agg #[.int .i64 x, .int .i64 y, .int .i64 z]] w fun e w' => e = .returned (.bool false) ∧ Below w.heap.size w w' :=
  (rone_any x y z w).mono fun _ _ ⟨he, hw⟩ => ⟨by rw [he, h], hw⟩

set_option maxHeartbeats 400000 in
theorem rvright_any (a : Option Addr) (len cap : Nat) (vs : List V3) (w : World) (row : VRow w a len vs) :
    Calls Try.prog 22 #[.slice a len cap] w fun e w' => e = .returned (.bool (rightV vs)) ∧ Below w.heap.size w w' := by
  have HL := Lib.hid row.1
  have hbig := row.2.1
  have HRow := Lib.hid row
  clear row
  go_enter Try.func22, Try.ntmps22
  go_wp2
  go_loopw [3] (fun i wr => ∃ k : Nat, k ≤ len ∧ i = .int .i64 k ∧ rightV (vs.take k) = true ∧ Below w.heap.size w wr) (fun i _ => len - (intOf i).toNat)
  case atStart => exact ⟨0, Nat.zero_le _, rfl, rfl, Below.refl _ _⟩
  case round =>
    obtain ⟨k, hk, rfl, hr, hb⟩ := hrel
    have HR := Lib.hid hr
    have HB := Lib.hid hb
    clear hr hb
    by_cases hlt : k < len
    · obtain ⟨b, off, x, y, z, rfl, hv, c0, c1, c2⟩ := (vrow_keep HRow.out HB.out).at_ hlt
      have HV := Lib.hid hv
      clear hv
      by_cases ho : ok3 x y z = true
      · have HO := Lib.hid ho
        clear ho
        go_wp2_with fail
        refine (rone_yes HO.out _).mono ?_
        rintro e w' ⟨rfl, b1⟩
        have B1 := Lib.hid b1
        clear b1
        go_wp2
        go_roundw
        case rel => exact ⟨k + 1, by omega, by go_num, rightV_succ HV.out HR.out HO.out, bthen HB.out B1.out⟩
        case measure => simp [intOf]; omega
      · have ho' : ok3 x y z = false := by simpa using ho
        have HO := Lib.hid ho'
        clear ho ho'
        go_wp2_with fail
        refine (rone_no HO.out _).mono ?_
        rintro e w' ⟨rfl, b1⟩
        have B1 := Lib.hid b1
        clear b1
        go_wp2
        go_ret
        exact ⟨ret_bool (rightV_bad HV.out HO.out).symm, bthen HB.out B1.out⟩
    · go_wp2
      go_ret
      exact ⟨ret_bool (rightV_all HR.out (by rw [HL.out]; omega)).symm, HB.out⟩

theorem rvright_yes {a : Option Addr} {len cap : Nat} {vs : List V3} {w : World} (hr : rightV vs = true) (row : VRow w a len vs) :
    Calls Try.prog 22 #[.slice a len cap] w fun e w' => e = .returned (.bool true) ∧ Below w.heap.size w w' :=
  (rvright_any a len cap vs w row).mono fun _ _ ⟨he, hw⟩ => ⟨by rw [he, hr], hw⟩
theorem rvright_no {a : Option Addr} {len cap : Nat} {vs : List V3} {w : World} (hr : rightV vs = false) (row : VRow w a len vs) :
    Calls Try.prog 22 #[.slice a len cap] w fun e w' => e = .returned (.bool false) ∧ Below w.heap.size w w' :=
  (rvright_any a len cap vs w row).mono fun _ _ ⟨he, hw⟩ => ⟨by rw [he, hr], hw⟩

/-! a list of numbers that the call itself appends -/
def Owns (w : World) (base : Nat) (v : Value) (n : Nat) (zs : List Int) : Prop := w.ownsRow base 23 1 v n (zs.map (Value.int .i64))
theorem f_info : (Try.prog.info? 23).map (fun i => (i.zero, i.size, i.bytes)) = some (some (.int .i64 0), 1, 8) := by kernel_rfl

theorem Owns.nil (w : World) (base : Nat) : Owns w base (.slice none 0 0) 0 [] := World.ownsRow_nil _ _ _ _
theorem Owns.row {w : World} {base : Nat} {v : Value} {n : Nat} {zs : List Int} (h : Owns w base v n zs) : ∃ a cap, v = .slice a n cap ∧ Row w a n zs := by
  have hl : zs.length = n := by simpa using h.1
  rcases h.2 with ⟨rfl, rfl⟩ | ⟨g, cap, cur, rfl, hb, hh, hnc, hm, hs, ht⟩
  · exact ⟨none, 0, rfl, hl, by omega, Or.inl rfl⟩
  · unfold maxLen at hm
    refine ⟨_, cap, rfl, hl, by omega, Or.inr ⟨g, 0, rfl, fun i hi => ?_⟩⟩
    rw [Nat.zero_add]
    have hi' : i < (zs.map (Value.int .i64)).length := by rw [List.length_map]; omega
    have hc := World.ownsRow.cellAt (j := i) h (by omega)
    rw [hc]
    simp [List.getD, List.getElem?_eq_getElem (show i < zs.length by omega)]

/-- what an append leaves, of what the call has beside -/
theorem grown_below {w0 wr w' : World} {base B : Nat} {v : Value} {n : Nat} {zs : List Int} {o : Obj} (ho : Owns wr base v n zs) (hB : B ≤ base) (hb : Below B w0 wr) (hs : B ≤ wr.heap.size) (hg : (wr.alloc o).grownBy w' v.ownBlock) : Below B w0 w' :=
  (hb.alloc hs o).grown hg (by simp; omega) (fun k hk => by have := World.ownsRow.lt ho k hk; omega)
theorem grown_blk {wr w' : World} {base g : Nat} {v : Value} {n : Nat} {zs : List Int} {o : Obj} (ho : Owns wr base v n zs) (hB : g < base) (hlt : g < wr.heap.size) (hg : (wr.alloc o).grownBy w' v.ownBlock) : w'.heap[g]? = wr.heap[g]? := by
  rw [hg.block g (by simp; omega) (fun e => by have := World.ownsRow.lt ho g e.symm; omega)]
  exact Below.heap_alloc wr o g hlt

def compK (k : Nat) (v : V3) : Int := if k = 0 then v.1 else if k = 1 then v.2.1 else v.2.2
def colK (k : Nat) (vs : List V3) : List Int := vs.map (compK k)
theorem colK0 (vs : List V3) : colK 0 vs = col0 vs := rfl
theorem colK1 (vs : List V3) : colK 1 vs = col1 vs := rfl
theorem colK2 (vs : List V3) : colK 2 vs = col2 vs := rfl
theorem VRow.atK {w : World} {a : Option Addr} {len j k : Nat} {vs : List V3} (h : VRow w a len vs) (hj : j < len) (hk : k < 3) :
    ∃ b off x, a = some ⟨b, off, none⟩ ∧ (colK k vs)[j]? = some x ∧ w.cell? ⟨b, off + j * 3 + k, none⟩ = some (.int .i64 x) := by
  obtain ⟨b, off, x, y, z, rfl, hv, c0, c1, c2⟩ := h.at_ hj
  obtain rfl | rfl | rfl : k = 0 ∨ k = 1 ∨ k = 2 := by omega
  · exact ⟨b, off, x, rfl, by simp [colK, hv, compK], c0⟩
  · exact ⟨b, off, y, rfl, by simp [colK, hv, compK], c1⟩
  · exact ⟨b, off, z, rfl, by simp [colK, hv, compK], c2⟩

theorem take_snocI {zs : List Int} {j : Nat} {x : Int} (h : zs[j]? = some x) : zs.take (j + 1) = zs.take j ++ [x] := by rw [List.take_add_one, h]; rfl

/-- the first error of three, place by place -/
theorem first3_at {e : Nat → Int} {k : Nat} (hk : k < 3) (h : ∀ j, j < k → e j = 0) (he : e k ≠ 0) : first3 (e 0) (e 1) (e 2) = e k := by
  unfold first3
  obtain rfl | rfl | rfl : k = 0 ∨ k = 1 ∨ k = 2 := by omega
  · rw [if_neg he]
  · rw [if_pos (h 0 (by omega)), if_neg he]
  · rw [if_pos (h 0 (by omega)), if_pos (h 1 (by omega))]
theorem first3_none {e : Nat → Int} (h : ∀ j, j < 3 → e j = 0) : first3 (e 0) (e 1) (e 2) = 0 := by
  unfold first3
  rw [if_pos (h 0 (by omega)), if_pos (h 1 (by omega)), h 2 (by omega)]

end Go.Proofs.Ythdgldoailjhhaa
