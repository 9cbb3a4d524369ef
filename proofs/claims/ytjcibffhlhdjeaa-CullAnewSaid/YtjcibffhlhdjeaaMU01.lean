/-
  11 texts in one file, each with its own heading.
-/
import Derived.Test.YtjcibffhlhdjeaaMU00
import Derived.Deep.RegionHeld3
import Derived.Deep.OwnRows
import Derived.Maps.AppendAt
import Derived.Deep.QuietTactic
import Derived.BigQuiet
/-
  Slices of vectors as lists; whether vectors may be, by package vec and by its reference.
-/
namespace Go.Proofs.Ytjcibffhlhdjeaa
open Go.RowKit

abbrev V3 := Int × Int × Int
def ok3 (x y z : Int) : Bool := rightB [x, y, z]
def okV (v : V3) : Bool := ok3 v.1 v.2.1 v.2.2
def rightV (vs : List V3) : Bool := vs.all okV
def zeroV : V3 := (0, 0, 0)

theorem cell_lt {w : World} {x : Addr} {v : Value} (h : w.cell? x = some v) : x.block < w.heap.size := by
  by_cases hb : x.block < w.heap.size
  · exact hb
  · have e : w.heap[x.block]? = none := Array.getElem?_eq_none (by omega)
    simp [World.cell?, e] at h

theorem cell_keep {w w' : World} {x : Addr} {v : Value} (h : w.cell? x = some v) (hb : Below w.heap.size w w') : w'.cell? x = some v := by
  rw [hb.cell (cell_lt h)]; exact h

theorem row_keep {w w' : World} {a : Option Addr} {len : Nat} {zs : List Int} (h : Row w a len zs) (hb : Below w.heap.size w w') : Row w' a len zs := by
  obtain ⟨h1, h2, h3⟩ := h
  refine ⟨h1, h2, ?_⟩
  rcases h3 with h3 | ⟨b, off, e, hc⟩
  · exact Or.inl h3
  · exact Or.inr ⟨b, off, e, fun i hi => cell_keep (hc i hi) hb⟩

def VRow (w : World) (a : Option Addr) (len : Nat) (vs : List V3) : Prop :=
  vs.length = len ∧ len ≤ 9223372036854775807 ∧ (len = 0 ∨ ∃ b off, a = some ⟨b, off, none⟩ ∧ ∀ i, i < len →
    w.cell? ⟨b, off + i * 3, none⟩ = some (.int .i64 (vs.getD i zeroV).1) ∧ w.cell? ⟨b, off + i * 3 + 1, none⟩ = some (.int .i64 (vs.getD i zeroV).2.1) ∧ w.cell? ⟨b, off + i * 3 + 2, none⟩ = some (.int .i64 (vs.getD i zeroV).2.2))

theorem vrow_keep {w w' : World} {a : Option Addr} {len : Nat} {vs : List V3} (h : VRow w a len vs) (hb : Below w.heap.size w w') : VRow w' a len vs := by
  obtain ⟨h1, h2, h3⟩ := h
  refine ⟨h1, h2, ?_⟩
  rcases h3 with h3 | ⟨b, off, e, hc⟩
  · exact Or.inl h3
  · exact Or.inr ⟨b, off, e, fun i hi => ⟨cell_keep (hc i hi).1 hb, cell_keep (hc i hi).2.1 hb, cell_keep (hc i hi).2.2 hb⟩⟩

theorem VRow.at_ {w : World} {a : Option Addr} {len k : Nat} {vs : List V3} (h : VRow w a len vs) (hk : k < len) :
    ∃ b off x y z, a = some ⟨b, off, none⟩ ∧ vs[k]? = some (x, y, z) ∧ w.cell? ⟨b, off + k * 3, none⟩ = some (.int .i64 x) ∧ w.cell? ⟨b, off + k * 3 + 1, none⟩ = some (.int .i64 y) ∧ w.cell? ⟨b, off + k * 3 + 2, none⟩ = some (.int .i64 z) := by
  obtain ⟨h1, h2, h3⟩ := h
  rcases h3 with h3 | ⟨b, off, rfl, hc⟩
  · omega
  · have hk' : k < vs.length := by omega
    obtain ⟨c0, c1, c2⟩ := hc k hk
    have e : vs.getD k zeroV = vs[k] := by simp [List.getD, List.getElem?_eq_getElem hk']
    rw [e] at c0 c1 c2
    exact ⟨b, off, _, _, _, rfl, List.getElem?_eq_getElem hk', c0, c1, c2⟩

theorem rightV_succ {vs : List V3} {k : Nat} {x y z : Int} (h : vs[k]? = some (x, y, z)) (hr : rightV (vs.take k) = true) (ho : ok3 x y z = true) : rightV (vs.take (k + 1)) = true := by
  unfold rightV at hr ⊢
  rw [List.take_add_one, List.all_append, hr, h]
  simpa [okV] using ho
theorem rightV_bad {vs : List V3} {k : Nat} {x y z : Int} (h : vs[k]? = some (x, y, z)) (ho : ok3 x y z = false) : rightV vs = false := by
  unfold rightV
  rw [List.all_eq_false]
  exact ⟨(x, y, z), List.mem_of_getElem? h, by simpa [okV] using ho⟩
theorem rightV_all {vs : List V3} {k : Nat} (hr : rightV (vs.take k) = true) (h : vs.length ≤ k) : rightV vs = true := by
  rwa [List.take_of_length_le h] at hr

theorem row3 {w : World} {g : Nat} {t : TypeId} {x y z : Int} (h : Blk w g t #[.int .i64 x, .int .i64 y, .int .i64 z]) : Row w (some ⟨g, 0, none⟩) 3 [x, y, z] := by
  refine ⟨rfl, by omega, Or.inr ⟨_, _, rfl, fun i hi => ?_⟩⟩
  obtain rfl | rfl | rfl : i = 0 ∨ i = 1 ∨ i = 2 := by omega
  · exact h.cell 0
  · exact h.cell 1
  · exact h.cell 2

theorem right3_yes {w : World} {g cap : Nat} {t : TypeId} {x y z : Int} (ho : ok3 x y z = true) (h : Blk w g t #[.int .i64 x, .int .i64 y, .int .i64 z]) :
    Calls Try.prog 50 #[.slice (some ⟨g, 0, none⟩) 3 cap] w fun e w' => e = .returned (.bool true) ∧ w = w' :=
  (right_any _ 3 cap [x, y, z] w (row3 h)).mono fun _ _ ⟨he, hw⟩ => ⟨by rw [he, show rightB [x, y, z] = true from ho], hw⟩
theorem right3_no {w : World} {g cap : Nat} {t : TypeId} {x y z : Int} (ho : ok3 x y z = false) (h : Blk w g t #[.int .i64 x, .int .i64 y, .int .i64 z]) :
    Calls Try.prog 50 #[.slice (some ⟨g, 0, none⟩) 3 cap] w fun e w' => e = .returned (.bool false) ∧ w = w' :=
  (right_any _ 3 cap [x, y, z] w (row3 h)).mono fun _ _ ⟨he, hw⟩ => ⟨by rw [he, show rightB [x, y, z] = false from ho], hw⟩

set_option maxHeartbeats 400000 in
theorem vright_any (a : Option Addr) (len cap : Nat) (vs : List V3) (w : World) (row : VRow w a len vs) :
    Calls Try.prog 49 #[.slice a len cap] w fun e w' => e = .returned (.bool (rightV vs)) ∧ Below w.heap.size w w' := by
  have HL := Lib.hid row.1
  have hbig := row.2.1
  have HRow := Lib.hid row
  clear row
  go_enter Try.func49, Try.ntmps49
  go_wp2
  go_loopw [4, 7] (fun _ i wr => ∃ k : Nat, k ≤ len ∧ i = .int .i64 k ∧ rightV (vs.take k) = true ∧ Below w.heap.size w wr) (fun _ i _ => len - (intOf i).toNat)
  case atStart => exact ⟨0, Nat.zero_le _, rfl, rfl, Below.refl _ _⟩
  case round =>
    obtain ⟨k, hk, rfl, hr, hb⟩ := hrel
    have HR := Lib.hid hr
    have HB := Lib.hid hb
    clear hr hb
    by_cases hlt : k < len
    · obtain ⟨b, off, x, y, z, rfl, hv, c0, c1, c2⟩ := (vrow_keep HRow.out HB.out).at_ hlt
      have HV := Lib.hid hv
      clear hv
      by_cases ho : ok3 x y z = true
      · have HO := Lib.hid ho
        clear ho
        go_wp2_with (go_at_call 50; refine (right3_yes HO.out (Blk.new _ _ _)).mono ?_; rintro e w' ⟨rfl, rfl⟩)
        go_roundw
        case rel => exact ⟨k + 1, by omega, by go_num, rightV_succ HV.out HR.out HO.out, balloc HB.out _⟩
        case measure => simp [intOf]; omega
      · have ho' : ok3 x y z = false := by simpa using ho
        have HO := Lib.hid ho'
        clear ho ho'
        go_wp2_with (go_at_call 50; refine (right3_no HO.out (Blk.new _ _ _)).mono ?_; rintro e w' ⟨rfl, rfl⟩)
        go_ret
        exact ⟨ret_bool (rightV_bad HV.out HO.out).symm, balloc HB.out _⟩
    · go_wp2
      go_ret
      exact ⟨ret_bool (rightV_all HR.out (by rw [HL.out]; omega)).symm, HB.out⟩

theorem bdrew {w w1 : World} (h : Below w.drew.heap.size w.drew w1) : Below w.heap.size w w1 := ⟨h.os, h.tape, h.output, h.size, h.block⟩
theorem cell_keepD {w w' : World} {x : Addr} {v : Value} (hb : Below w.drew.heap.size w.drew w') (h : w.cell? x = some v) : w'.cell? x = some v := cell_keep h (bdrew hb)

theorem Blk.drew {w : World} {g : Nat} {t : TypeId} {cs : Array Value} (h : Blk w g t cs) : Blk w.drew g t cs := h

def ok6 (x0 x1 x2 y0 y1 y2 : Int) : Bool := ok3 x0 x1 x2 && ok3 y0 y1 y2
theorem rightV2 (x0 x1 x2 y0 y1 y2 : Int) : rightV [(x0, x1, x2), (y0, y1, y2)] = ok6 x0 x1 x2 y0 y1 y2 := by simp [rightV, okV, ok6]
theorem rightV1 (x0 x1 x2 : Int) : rightV [(x0, x1, x2)] = ok3 x0 x1 x2 := by simp [rightV, okV]
theorem ok3_parts {x y z : Int} (h : ok3 x y z = true) : okB x = true ∧ okB y = true ∧ okB z = true := by simpa [ok3, rightB, and_assoc] using h
theorem ok6_parts {x0 x1 x2 y0 y1 y2 : Int} (h : ok6 x0 x1 x2 y0 y1 y2 = true) : ok3 x0 x1 x2 = true ∧ ok3 y0 y1 y2 = true := by simpa [ok6] using h

theorem bset3 {w a : World} {g : Nat} {u0 u1 u2 : Value} (h : Below w.heap.size w a) (hg : w.heap.size ≤ g) : Below w.heap.size w (((a.setCell ⟨g, 0, none⟩ u0).setCell ⟨g, 1, none⟩ u1).setCell ⟨g, 2, none⟩ u2) := ((h.setCell hg _).setCell hg _).setCell hg _

theorem vrow1 {w : World} {g : Nat} {t : TypeId} {x0 x1 x2 : Int} (h : Blk w g t #[.int .i64 x0, .int .i64 x1, .int .i64 x2]) : VRow w (some ⟨g, 0, none⟩) 1 [(x0, x1, x2)] := by
  refine ⟨rfl, by omega, Or.inr ⟨_, _, rfl, fun i hi => ?_⟩⟩
  obtain rfl : i = 0 := by omega
  exact ⟨h.cell 0, h.cell 1, h.cell 2⟩
theorem vrow2 {w : World} {g : Nat} {t : TypeId} {x0 x1 x2 y0 y1 y2 : Int} (h : Blk w g t #[.int .i64 x0, .int .i64 x1, .int .i64 x2, .int .i64 y0, .int .i64 y1, .int .i64 y2]) : VRow w (some ⟨g, 0, none⟩) 2 [(x0, x1, x2), (y0, y1, y2)] := by
  refine ⟨rfl, by omega, Or.inr ⟨_, _, rfl, fun i hi => ?_⟩⟩
  obtain rfl | rfl : i = 0 ∨ i = 1 := by omega
  · exact ⟨h.cell 0, h.cell 1, h.cell 2⟩
  · exact ⟨h.cell 3, h.cell 4, h.cell 5⟩

def bet (bt : Int → Int → Bool) (b x : Int) : Int := if bt x b then x else b
def betV (bt : Int → Int → Bool) (b x : V3) : V3 := (bet bt b.1 x.1, bet bt b.2.1 x.2.1, bet bt b.2.2 x.2.2)
def pk (bt : Int → Int → Bool) : List V3 → V3
  | [] => zeroV
  | v :: r => r.foldl (betV bt) v
def lessB (x y : Int) : Bool := decide (x < y)
def moreB (x y : Int) : Bool := decide (x > y)

theorem bet_yes {bt : Int → Int → Bool} {b x : Int} (h : bt x b = true) : bet bt b x = x := by unfold bet; rw [if_pos h]
theorem bet_no {bt : Int → Int → Bool} {b x : Int} (h : bt x b = false) : bet bt b x = b := by unfold bet; rw [h]; rfl

theorem pk_one {bt : Int → Int → Bool} {vs : List V3} {v : V3} (h : vs[0]? = some v) : pk bt (vs.take 1) = v := by
  cases vs with
  | nil => simp at h
  | cons a r => simp at h; subst h; simp [pk]
theorem pk_succ {bt : Int → Int → Bool} {vs : List V3} {v : V3} {k : Nat} (h : vs[k + 1]? = some v) : pk bt (vs.take (k + 2)) = betV bt (pk bt (vs.take (k + 1))) v := by
  cases vs with
  | nil => simp at h
  | cons a r =>
    have h' : r[k]? = some v := by simpa using h
    simp only [List.take_succ_cons, pk]
    rw [List.take_add_one, h']
    simp
theorem pk_all {bt : Int → Int → Bool} {vs : List V3} {k : Nat} (h : vs.length ≤ k) : pk bt (vs.take k) = pk bt vs := by rw [List.take_of_length_le h]

def Compares (F : Nat) (bt : Int → Int → Bool) : Prop := ∀ x y w, Calls Try.prog F #[.int .i64 x, .int .i64 y] w fun e w' => e = .returned (.bool (bt x y)) ∧ w = w'

set_option maxHeartbeats 400000 in
theorem less_any : Compares 89 lessB := by
  intro x y w
  unfold lessB
  go_enter Try.func89, Try.ntmps89
  go_wp2
  go_ret
  exact ⟨rfl, rfl⟩
set_option maxHeartbeats 400000 in
theorem more_any : Compares 92 moreB := by
  intro x y w
  unfold moreB
  go_enter Try.func92, Try.ntmps92
  go_wp2
  go_ret
  exact ⟨rfl, rfl⟩
theorem enters_less : Enters 89 := fun _ _ => by kernel_rfl
theorem enters_more : Enters 92 := fun _ _ => by kernel_rfl

def AGG (v : V3) : Value := .agg #[.int .i64 v.1, .int .i64 v.2.1, .int .i64 v.2.2]
def BV (w : World) (g : Nat) (v : V3) : Prop := Blk w g 38 #[.int .i64 v.1, .int .i64 v.2.1, .int .i64 v.2.2]

set_option maxHeartbeats 400000 in
theorem pick_empty (F : Nat) (a : Option Addr) (cap : Nat) (w : World) :
    Calls Try.prog 88 #[.slice a 0 cap, .func (.func F) #[] #[]] w fun e w' => e = .returned (.agg #[.int .i64 0, .int .i64 0, .int .i64 0]) ∧ Below w.heap.size w w' := by
  go_enter Try.func88, Try.ntmps88
  go_wp2
  exact bodyPost_ret (v := .agg #[.int .i64 0, .int .i64 0, .int .i64 0]) (by simp [results, Try.results88, go_sem]) rfl ⟨rfl, alloc_below _ _⟩

theorem idx0 (x y z : Int) (w : World) : (Instr.index 38 (.agg #[.int .i64 x, .int .i64 y, .int .i64 z]) (.int .i64 0)).run Try.prog w = .ok (.int .i64 x) w := by kernel_rfl
theorem idx1 (x y z : Int) (w : World) : (Instr.index 38 (.agg #[.int .i64 x, .int .i64 y, .int .i64 z]) (.int .i64 1)).run Try.prog w = .ok (.int .i64 y) w := by kernel_rfl
theorem idx2 (x y z : Int) (w : World) : (Instr.index 38 (.agg #[.int .i64 x, .int .i64 y, .int .i64 z]) (.int .i64 2)).run Try.prog w = .ok (.int .i64 z) w := by kernel_rfl

def mid (bt : Int → Int → Bool) (b x : V3) (p : Nat) : V3 := (if 0 < p then bet bt b.1 x.1 else b.1, if 1 < p then bet bt b.2.1 x.2.1 else b.2.1, if 2 < p then bet bt b.2.2 x.2.2 else b.2.2)

theorem mid_yes0 {bt : Int → Int → Bool} {b0 b1 b2 x y z : Int} {w : World} {g : Nat} (h : bt x b0 = true) (hB : BV w g (mid bt (b0, b1, b2) (x, y, z) 0)) : BV (w.setCell ⟨g, 0, none⟩ (.int .i64 x)) g (mid bt (b0, b1, b2) (x, y, z) 1) := by
  have h1 := Blk.set_ hB 0 (.int .i64 x)
  have e := bet_yes h
  unfold BV
  simp only [mid, e] at h1 ⊢
  exact h1
theorem mid_no0 {bt : Int → Int → Bool} {b0 b1 b2 x y z : Int} {w : World} {g : Nat} (h : bt x b0 = false) (hB : BV w g (mid bt (b0, b1, b2) (x, y, z) 0)) : BV w g (mid bt (b0, b1, b2) (x, y, z) 1) := by
  have e := bet_no h
  unfold BV at hB ⊢
  simp only [mid, e] at hB ⊢
  exact hB
theorem mid_yes1 {bt : Int → Int → Bool} {b0 b1 b2 x y z : Int} {w : World} {g : Nat} (h : bt y b1 = true) (hB : BV w g (mid bt (b0, b1, b2) (x, y, z) 1)) : BV (w.setCell ⟨g, 1, none⟩ (.int .i64 y)) g (mid bt (b0, b1, b2) (x, y, z) 2) := by
  have h1 := Blk.set_ hB 1 (.int .i64 y)
  have e := bet_yes h
  unfold BV
  simp only [mid, e] at h1 ⊢
  exact h1
theorem mid_no1 {bt : Int → Int → Bool} {b0 b1 b2 x y z : Int} {w : World} {g : Nat} (h : bt y b1 = false) (hB : BV w g (mid bt (b0, b1, b2) (x, y, z) 1)) : BV w g (mid bt (b0, b1, b2) (x, y, z) 2) := by
  have e := bet_no h
  unfold BV at hB ⊢
  simp only [mid, e] at hB ⊢
  exact hB
theorem mid_yes2 {bt : Int → Int → Bool} {b0 b1 b2 x y z : Int} {w : World} {g : Nat} (h : bt z b2 = true) (hB : BV w g (mid bt (b0, b1, b2) (x, y, z) 2)) : BV (w.setCell ⟨g, 2, none⟩ (.int .i64 z)) g (mid bt (b0, b1, b2) (x, y, z) 3) := by
  have h1 := Blk.set_ hB 2 (.int .i64 z)
  have e := bet_yes h
  unfold BV
  simp only [mid, e] at h1 ⊢
  exact h1
theorem mid_no2 {bt : Int → Int → Bool} {b0 b1 b2 x y z : Int} {w : World} {g : Nat} (h : bt z b2 = false) (hB : BV w g (mid bt (b0, b1, b2) (x, y, z) 2)) : BV w g (mid bt (b0, b1, b2) (x, y, z) 3) := by
  have e := bet_no h
  unfold BV at hB ⊢
  simp only [mid, e] at hB ⊢
  exact hB

set_option maxHeartbeats 1000000 in
theorem pick_far (F : Nat) (bt : Int → Int → Bool) (hF : Enters F) (hc : Compares F bt) (b off len cap : Nat) (vs : List V3) (w : World) (hlen : 0 < len) (hcap : len ≤ cap) (hc1 : 1 < cap) (hbig : cap ≤ 9223372036854775807) (row : VRow w (some ⟨b, off, none⟩) len vs) :
    Calls Try.prog 88 #[.slice (some ⟨b, off, none⟩) len cap, .func (.func F) #[] #[]] w fun e w' => e = .returned (AGG (pk bt vs)) ∧ Below w.heap.size w w' := by
  have HL := Lib.hid row.1
  have HRow := Lib.hid row
  have HCmp := Lib.hid hc
  clear row hc
  unfold Enters at hF
  obtain ⟨b', off', x, y, z, he, hv, c0, c1, c2⟩ := (vrow_keep HRow.out (alloc_below _ (.cells #[.int .i64 0, .int .i64 0, .int .i64 0] 38))).at_ hlen
  obtain ⟨rfl, rfl⟩ : b' = b ∧ off' = off := by simp at he; exact ⟨he.1.symm, he.2.symm⟩
  have HV := Lib.hid hv
  clear hv he
  simp only [Nat.zero_mul, Nat.add_zero] at c0 c1 c2
  have hne : (len == 0) = false := by simp; omega
  have hne' : ((len : Int) == 0) = false := by simp; omega
  go_enter Try.func88, Try.ntmps88
  go_wp2
  go_loopw [20] (fun i wr => ∃ k : Nat, k ≤ len - 1 ∧ i = .int .i64 k ∧ BV wr (w.heap.size + 1) (pk bt (vs.take (k + 1))) ∧ BV wr w.heap.size zeroV ∧ Below w.heap.size w wr) (fun i _ => len - 1 - (intOf i).toNat)
  case atStart =>
    refine ⟨0, Nat.zero_le _, rfl, ?_, (Blk.new w _ _).alloc _, balloc (alloc_below _ _) _⟩
    rw [pk_one HV.out]
    exact blkAt (Blk.new (w.alloc _) _ _) (by simp)
  case round =>
    obtain ⟨k, hk, rfl, hr, hz, hb⟩ := hrel
    have HR := Lib.hid hr
    have HZ := Lib.hid hz
    have HB := Lib.hid hb
    clear hr hz hb c0 c1 c2
    by_cases hlt : k < len - 1
    · obtain ⟨b2, off2, x1, y1, z1, he, hv, c0, c1, c2⟩ := (vrow_keep HRow.out HB.out).at_ (show k + 1 < len by omega)
      obtain ⟨rfl, rfl⟩ : b2 = b' ∧ off2 = off' := by simp at he; exact ⟨he.1.symm, he.2.symm⟩
      have HV2 := Lib.hid hv
      clear hv he
      rw [show off2 + (k + 1) * 3 = off2 + 3 + k * 3 by omega] at c0 c1 c2
      obtain ⟨⟨p0, p1, p2⟩, hp⟩ : ∃ p, p = pk bt (vs.take (k + 1)) := ⟨_, rfl⟩
      rw [← hp] at HR
      have HP := Lib.hid hp
      clear hp
      go_wp2
      go_loopw [25] (fun i wi => ∃ q : Nat, q ≤ 3 ∧ i = .int .i64 q ∧ BV wi (w.heap.size + 1) (mid bt (p0, p1, p2) (x1, y1, z1) q) ∧ BV wi w.heap.size zeroV ∧ Below w.heap.size w wi) (fun i _ => 3 - (intOf i).toNat)
      case atStart => exact ⟨0, by omega, rfl, HR.out.alloc _, HZ.out.alloc _, balloc HB.out _⟩
      case round =>
        obtain ⟨q, hq, rfl, hr, hz, hb⟩ := hrel
        have HR2 := Lib.hid hr
        have HZ2 := Lib.hid hz
        have HB2 := Lib.hid hb
        clear hr hz hb
        obtain rfl | rfl | rfl | rfl : q = 0 ∨ q = 1 ∨ q = 2 ∨ q = 3 := by omega
        · obtain ⟨d0, d1, d2, f0, f1, f2⟩ := blk3 (x := .int .i64 p0) (y := .int .i64 p1) (z := .int .i64 p2) HR2.out
          have hi := idx0 x1 y1 z1
          by_cases hcm : bt x1 p0 = true
          · go_wp2_with fail
            refine (HCmp.out _ _ _).mono ?_
            rintro e w' ⟨rfl, rfl⟩
            go_wp2
            go_roundw
            case rel => exact ⟨1, by omega, rfl, mid_yes0 hcm HR2.out, HZ2.out.far (by simp) _, HB2.out.setCell (by simp) _⟩
            case measure => simp [intOf]
          · have hcm' : bt x1 p0 = false := by simpa using hcm
            clear hcm
            go_wp2_with fail
            refine (HCmp.out _ _ _).mono ?_
            rintro e w' ⟨rfl, rfl⟩
            go_wp2
            go_roundw
            case rel => exact ⟨1, by omega, rfl, mid_no0 hcm' HR2.out, HZ2.out, HB2.out⟩
            case measure => simp [intOf]
        · obtain ⟨d0, d1, d2, f0, f1, f2⟩ := blk3 (x := .int .i64 (bet bt p0 x1)) (y := .int .i64 p1) (z := .int .i64 p2) HR2.out
          have hi := idx1 x1 y1 z1
          by_cases hcm : bt y1 p1 = true
          · go_wp2_with fail
            refine (HCmp.out _ _ _).mono ?_
            rintro e w' ⟨rfl, rfl⟩
            go_wp2
            go_roundw
            case rel => exact ⟨2, by omega, rfl, mid_yes1 hcm HR2.out, HZ2.out.far (by simp) _, HB2.out.setCell (by simp) _⟩
            case measure => simp [intOf]
          · have hcm' : bt y1 p1 = false := by simpa using hcm
            clear hcm
            go_wp2_with fail
            refine (HCmp.out _ _ _).mono ?_
            rintro e w' ⟨rfl, rfl⟩
            go_wp2
            go_roundw
            case rel => exact ⟨2, by omega, rfl, mid_no1 hcm' HR2.out, HZ2.out, HB2.out⟩
            case measure => simp [intOf]
        · obtain ⟨d0, d1, d2, f0, f1, f2⟩ := blk3 (x := .int .i64 (bet bt p0 x1)) (y := .int .i64 (bet bt p1 y1)) (z := .int .i64 p2) HR2.out
          have hi := idx2 x1 y1 z1
          by_cases hcm : bt z1 p2 = true
          · go_wp2_with fail
            refine (HCmp.out _ _ _).mono ?_
            rintro e w' ⟨rfl, rfl⟩
            go_wp2
            go_roundw
            case rel => exact ⟨3, by omega, rfl, mid_yes2 hcm HR2.out, HZ2.out.far (by simp) _, HB2.out.setCell (by simp) _⟩
            case measure => simp [intOf]
          · have hcm' : bt z1 p2 = false := by simpa using hcm
            clear hcm
            go_wp2_with fail
            refine (HCmp.out _ _ _).mono ?_
            rintro e w' ⟨rfl, rfl⟩
            go_wp2
            go_roundw
            case rel => exact ⟨3, by omega, rfl, mid_no2 hcm' HR2.out, HZ2.out, HB2.out⟩
            case measure => simp [intOf]
        · go_wp2
          go_roundw
          case rel => exact ⟨k + 1, by omega, by go_num, by rw [pk_succ HV2.out, ← HP.out]; exact HR2.out, HZ2.out, HB2.out⟩
          case measure => simp [intOf]; omega
    · obtain ⟨⟨p0, p1, p2⟩, hp⟩ : ∃ p, p = pk bt (vs.take (k + 1)) := ⟨_, rfl⟩
      rw [← hp] at HR
      rw [pk_all (by rw [HL.out]; omega)] at hp
      have HP := Lib.hid hp
      clear hp
      obtain ⟨d0, d1, d2, f0, f1, f2⟩ := blk3 (x := .int .i64 p0) (y := .int .i64 p1) (z := .int .i64 p2) HR.out
      obtain ⟨z0, z1, z2, g0, g1, g2⟩ := blk3 (x := .int .i64 0) (y := .int .i64 0) (z := .int .i64 0) HZ.out
      go_wp2
      exact bodyPost_ret (v := .agg #[.int .i64 p0, .int .i64 p1, .int .i64 p2]) (by simp [results, Try.results88, go_sem, z0, z1, z2]) rfl ⟨by rw [← HP.out]; rfl, bset3 HB.out (by omega)⟩

set_option maxHeartbeats 400000 in
theorem pick_near (F : Nat) (bt : Int → Int → Bool) (b off : Nat) (vs : List V3) (w : World) (row : VRow w (some ⟨b, off, none⟩) 1 vs) :
    Calls Try.prog 88 #[.slice (some ⟨b, off, none⟩) 1 1, .func (.func F) #[] #[]] w fun e w' => e = .returned (AGG (pk bt vs)) ∧ Below w.heap.size w w' := by
  have HL := Lib.hid row.1
  obtain ⟨b', off', x, y, z, he, hv, c0, c1, c2⟩ := (vrow_keep row (alloc_below _ (.cells #[.int .i64 0, .int .i64 0, .int .i64 0] 38))).at_ (show 0 < 1 by omega)
  obtain ⟨rfl, rfl⟩ : b' = b ∧ off' = off := by simp at he; exact ⟨he.1.symm, he.2.symm⟩
  have hp : pk bt vs = (x, y, z) := by rw [← pk_all (k := 1) (by rw [HL.out]; omega), pk_one hv]
  have HP := Lib.hid hp
  clear hv he row hp
  simp only [Nat.zero_mul, Nat.add_zero] at c0 c1 c2
  go_enter Try.func88, Try.ntmps88
  go_wp2
  refine wp_loop_rounds 1 ?_
  rw [rounds_succ]
  go_wp2
  exact bodyPost_ret (v := .agg #[.int .i64 x, .int .i64 y, .int .i64 z]) (by simp [results, Try.results88, go_sem]) rfl ⟨by rw [HP.out]; rfl, by first | exact balloc (alloc_below _ _) _ | exact bset3 (balloc (alloc_below _ _) _) (by omega)⟩

theorem pick_any (F : Nat) (bt : Int → Int → Bool) (hF : Enters F) (hc : Compares F bt) (a : Option Addr) (len cap : Nat) (vs : List V3) (w : World) (hcap : len ≤ cap) (hbig : cap ≤ 9223372036854775807) (row : VRow w a len vs) :
    Calls Try.prog 88 #[.slice a len cap, .func (.func F) #[] #[]] w fun e w' => e = .returned (AGG (pk bt vs)) ∧ Below w.heap.size w w' := by
  by_cases h0 : len = 0
  · subst h0
    obtain rfl := List.eq_nil_of_length_eq_zero row.1
    exact pick_empty F a cap w
  · obtain ⟨b, off, rfl, _⟩ : ∃ b off, a = some ⟨b, off, none⟩ ∧ True := by
      rcases row.2.2 with h | ⟨b, off, h, _⟩
      · exact absurd h h0
      · exact ⟨b, off, h, trivial⟩
    by_cases h1 : cap = 1
    · subst h1
      obtain rfl : len = 1 := by omega
      exact pick_near F bt b off vs w row
    · exact pick_far F bt hF hc b off len cap vs w (by omega) hcap (by omega) hbig row

set_option maxHeartbeats 400000 in
theorem least_any (a : Option Addr) (len cap : Nat) (vs : List V3) (w : World) (hcap : len ≤ cap) (hbig : cap ≤ 9223372036854775807) (row : VRow w a len vs) :
    Calls Try.prog 80 #[.slice a len cap] w fun e w' => e = .returned (AGG (pk lessB vs)) ∧ Below w.heap.size w w' := by
  have HRow := Lib.hid row
  clear row
  obtain ⟨⟨p0, p1, p2⟩, hp⟩ : ∃ p, p = pk lessB vs := ⟨_, rfl⟩
  have HP := Lib.hid hp
  clear hp
  go_enter Try.func80, Try.ntmps80
  go_wp2_with fail
  refine (pick_any _ lessB enters_less less_any _ _ _ vs _ hcap hbig (vrow_keep HRow.out (alloc_below _ _))).mono ?_
  rw [← HP.out]
  unfold AGG
  rintro e w1 ⟨rfl, b1⟩
  have k1 := Lib.hid ((Blk.new w 38 _).keep b1)
  have B1 := Lib.hid (bthen (alloc_below _ _) b1)
  clear b1
  obtain ⟨c10, c11, c12, f10, f11, f12⟩ := blk3 k1.out
  go_wp2
  exact bodyPost_ret (v := .agg #[.int .i64 p0, .int .i64 p1, .int .i64 p2]) (by simp [results, Try.results80, go_sem, c10, c11, c12]) rfl ⟨by rw [← HP.out]; rfl, bset3 B1.out (by omega)⟩

set_option maxHeartbeats 400000 in
theorem greatest_any (a : Option Addr) (len cap : Nat) (vs : List V3) (w : World) (hcap : len ≤ cap) (hbig : cap ≤ 9223372036854775807) (row : VRow w a len vs) :
    Calls Try.prog 83 #[.slice a len cap] w fun e w' => e = .returned (AGG (pk moreB vs)) ∧ Below w.heap.size w w' := by
  have HRow := Lib.hid row
  clear row
  obtain ⟨⟨p0, p1, p2⟩, hp⟩ : ∃ p, p = pk moreB vs := ⟨_, rfl⟩
  have HP := Lib.hid hp
  clear hp
  go_enter Try.func83, Try.ntmps83
  go_wp2_with fail
  refine (pick_any _ moreB enters_more more_any _ _ _ vs _ hcap hbig (vrow_keep HRow.out (alloc_below _ _))).mono ?_
  rw [← HP.out]
  unfold AGG
  rintro e w1 ⟨rfl, b1⟩
  have k1 := Lib.hid ((Blk.new w 38 _).keep b1)
  have B1 := Lib.hid (bthen (alloc_below _ _) b1)
  clear b1
  obtain ⟨c10, c11, c12, f10, f11, f12⟩ := blk3 k1.out
  go_wp2
  exact bodyPost_ret (v := .agg #[.int .i64 p0, .int .i64 p1, .int .i64 p2]) (by simp [results, Try.results83, go_sem, c10, c11, c12]) rfl ⟨by rw [← HP.out]; rfl, bset3 B1.out (by omega)⟩

theorem eqVec (a b c d e f : Int) (w : World) : (Op.equalIn 10000 38 (.agg #[.int .i64 a, .int .i64 b, .int .i64 c]) (.agg #[.int .i64 d, .int .i64 e, .int .i64 f])).run Try.prog w = .ok (a == d && b == e && c == f) w := by
  have u3 := Try.underlying36
  have a3 := Try.isAgg36
  have z3 := Try.sizeOf36
  rw [show (10000 : Nat) = 9999 + 1 from rfl, Op.equalIn]
  simp only [Sem.run_bind, run_underlying Try.underlying38, Result.andThen_ok]
  simp only [Std.Legacy.Range.forIn_eq_forIn_range', Std.Legacy.Range.size, Nat.sub_zero, Nat.add_sub_cancel, Nat.div_one, List.range'_succ, List.range'_zero, List.forIn_cons, List.forIn_nil]
  go_simp
  by_cases h1 : a = d <;> by_cases h2 : b = e <;> by_cases h3 : c = f <;> simp [h1, h2, h3]

def av : List V3 := [(65536, -131072, 196608), (65536, -131072, 196608), (5, 0, 0)]
theorem rright3 {w : World} {g cap : Nat} {t : TypeId} {x y z : Int} (h : Blk w g t #[.int .i64 x, .int .i64 y, .int .i64 z]) :
    Calls Try.prog 55 #[.slice (some ⟨g, 0, none⟩) 3 cap] w fun e w' => e = .returned (.bool (ok3 x y z)) ∧ w = w' :=
  rright_any _ 3 cap [x, y, z] w (row3 h)

set_option maxHeartbeats 400000 in
theorem rone_any (x y z : Int) (w : World) :
    Calls Try.prog 93 #[.agg #[.int .i64 x, .int .i64 y, .int .i64 z]] w fun e w' => e = .returned (.bool (ok3 x y z)) ∧ Below w.heap.size w w' := by
  go_enter Try.func93, Try.ntmps93
  go_wp2_with (go_at_call 55; refine (rright3 (Blk.new _ _ _)).mono ?_; rintro e w' ⟨rfl, rfl⟩)
  go_ret
  exact ⟨rfl, alloc_below _ _⟩

theorem rone_yes {x y z : Int} (h : ok3 x y z = true) (w : World) :
    Calls Try.prog 93 #[.agg #[.int .i64 x, .int .i64 y, .int .i64 z]] w fun e w' => e = .returned (.bool true) ∧ Below w.heap.size w w' :=
  (rone_any x y z w).mono fun _ _ ⟨he, hw⟩ => ⟨by rw [he, h], hw⟩
theorem rone_no {x y z : Int} (h : ok3 x y z = false) (w : World) :
    Calls Try.prog 93 #[.agg #[.int .i64 x, .int .i64 y, .int .i64 z]] w fun e w' => e = .returned (.bool false) ∧ Below w.heap.size w w' :=
  (rone_any x y z w).mono fun _ _ ⟨he, hw⟩ => ⟨by rw [he, h], hw⟩

set_option maxHeartbeats 400000 in
theorem rvright_any (a : Option Addr) (len cap : Nat) (vs : List V3) (w : World) (row : VRow w a len vs) :
    Calls Try.prog 84 #[.slice a len cap] w fun e w' => e = .returned (.bool (rightV vs)) ∧ Below w.heap.size w w' := by
  have HL := Lib.hid row.1
  have hbig := row.2.1
  have HRow := Lib.hid row
  clear row
  go_enter Try.func84, Try.ntmps84
  go_wp2
  go_loopw [3] (fun i wr => ∃ k : Nat, k ≤ len ∧ i = .int .i64 k ∧ rightV (vs.take k) = true ∧ Below w.heap.size w wr) (fun i _ => len - (intOf i).toNat)
  case atStart => exact ⟨0, Nat.zero_le _, rfl, rfl, Below.refl _ _⟩
  case round =>
    obtain ⟨k, hk, rfl, hr, hb⟩ := hrel
    have HR := Lib.hid hr
    have HB := Lib.hid hb
    clear hr hb
    by_cases hlt : k < len
    · obtain ⟨b, off, x, y, z, rfl, hv, c0, c1, c2⟩ := (vrow_keep HRow.out HB.out).at_ hlt
      have HV := Lib.hid hv
      clear hv
      by_cases ho : ok3 x y z = true
      · have HO := Lib.hid ho
        clear ho
        go_wp2_with fail
        refine (rone_yes HO.out _).mono ?_
        rintro e w' ⟨rfl, b1⟩
        have B1 := Lib.hid b1
        clear b1
        go_wp2
        go_roundw
        case rel => exact ⟨k + 1, by omega, by go_num, rightV_succ HV.out HR.out HO.out, bthen HB.out B1.out⟩
        case measure => simp [intOf]; omega
      · have ho' : ok3 x y z = false := by simpa using ho
        have HO := Lib.hid ho'
        clear ho ho'
        go_wp2_with fail
        refine (rone_no HO.out _).mono ?_
        rintro e w' ⟨rfl, b1⟩
        have B1 := Lib.hid b1
        clear b1
        go_wp2
        go_ret
        exact ⟨ret_bool (rightV_bad HV.out HO.out).symm, bthen HB.out B1.out⟩
    · go_wp2
      go_ret
      exact ⟨ret_bool (rightV_all HR.out (by rw [HL.out]; omega)).symm, HB.out⟩

def Owns (w : World) (base : Nat) (v : Value) (n : Nat) (zs : List Int) : Prop := w.ownsRow base 36 1 v n (zs.map (Value.int .i64))
theorem f_info : (Try.prog.info? 36).map (fun i => (i.zero, i.size, i.bytes)) = some (some (.int .i64 0), 1, 8) := by kernel_rfl

theorem Owns.row {w : World} {base : Nat} {v : Value} {n : Nat} {zs : List Int} (h : Owns w base v n zs) : ∃ a cap, v = .slice a n cap ∧ Row w a n zs := by
  have hl : zs.length = n := by simpa using h.1
  rcases h.2 with ⟨rfl, rfl⟩ | ⟨g, cap, cur, rfl, hb, hh, hnc, hm, hs, ht⟩
  · exact ⟨none, 0, rfl, hl, by omega, Or.inl rfl⟩
  · unfold maxLen at hm
    refine ⟨_, cap, rfl, hl, by omega, Or.inr ⟨g, 0, rfl, fun i hi => ?_⟩⟩
    rw [Nat.zero_add]
    have hi' : i < (zs.map (Value.int .i64)).length := by rw [List.length_map]; omega
    have hc := World.ownsRow.cellAt (j := i) h (by omega)
    rw [hc]
    simp [List.getD, List.getElem?_eq_getElem (show i < zs.length by omega)]

theorem grown_below {w0 wr w' : World} {base B : Nat} {v : Value} {n : Nat} {zs : List Int} {o : Obj} (ho : Owns wr base v n zs) (hB : B ≤ base) (hb : Below B w0 wr) (hs : B ≤ wr.heap.size) (hg : (wr.alloc o).grownBy w' v.ownBlock) : Below B w0 w' :=
  (hb.alloc hs o).grown hg (by simp; omega) (fun k hk => by have := World.ownsRow.lt ho k hk; omega)
theorem grown_blk {wr w' : World} {base g : Nat} {v : Value} {n : Nat} {zs : List Int} {o : Obj} (ho : Owns wr base v n zs) (hB : g < base) (hlt : g < wr.heap.size) (hg : (wr.alloc o).grownBy w' v.ownBlock) : w'.heap[g]? = wr.heap[g]? := by
  rw [hg.block g (by simp; omega) (fun e => by have := World.ownsRow.lt ho g e.symm; omega)]
  exact Below.heap_alloc wr o g hlt

theorem first3_at {e : Nat → Int} {k : Nat} (hk : k < 3) (h : ∀ j, j < k → e j = 0) (he : e k ≠ 0) : first3 (e 0) (e 1) (e 2) = e k := by
  unfold first3
  obtain rfl | rfl | rfl : k = 0 ∨ k = 1 ∨ k = 2 := by omega
  · rw [if_neg he]
  · rw [if_pos (h 0 (by omega)), if_neg he]
  · rw [if_pos (h 0 (by omega)), if_pos (h 1 (by omega))]
theorem first3_none {e : Nat → Int} (h : ∀ j, j < 3 → e j = 0) : first3 (e 0) (e 1) (e 2) = 0 := by
  unfold first3
  rw [if_pos (h 0 (by omega)), if_pos (h 1 (by omega)), h 2 (by omega)]

theorem Blk.drewN {w : World} {g : Nat} {t : TypeId} {cs : Array Value} (h : Blk w g t cs) (n : Nat) : Blk (w.drewN n) g t cs := h
def laidTo (f : Nat → Int) (k j : Nat) : Value := if j < k then .int .i64 (f j) else .int .i64 0
theorem laid_step (f : Nat → Int) (k j : Nat) : (if j = k then Value.int .i64 (f k) else laidTo f k j) = laidTo f (k + 1) j := by
  unfold laidTo
  by_cases e : j = k
  · subst e; rw [if_pos rfl, if_pos (by omega)]
  · rw [if_neg e]
    by_cases e2 : j < k
    · rw [if_pos e2, if_pos (by omega)]
    · rw [if_neg e2, if_neg (by omega)]
theorem laid_start (w : World) (t : TypeId) (f : Nat → Int) : (w.alloc (.cells #[.int .i64 0, .int .i64 0, .int .i64 0] t)).rowIs w.heap.size t 3 (laidTo f 0) := by
  refine (World.rowIs_alloc w _ t (laidTo f 0) (fun i hi => ?_))
  obtain rfl | rfl | rfl : i = 0 ∨ i = 1 ∨ i = 2 := by simp at hi; omega
  · rfl
  · rfl
  · rfl
theorem err_step {e : Nat → Int} {k : Nat} (h : ∀ j, j < k → e j = 0) (he : e k = 0) : ∀ j, j < k + 1 → e j = 0 := fun i hi => by
  by_cases c : i = k
  · rw [c]; exact he
  · exact h i (by omega)

theorem own_keep {wr w2 : World} {base : Nat} {v : Value} {n : Nat} {zs : List Int} (h : Owns wr base v n zs) (hb : Below wr.heap.size wr w2) : Owns w2 base v n zs := by
  refine ⟨h.1, ?_⟩
  rcases h.2 with h0 | ⟨g, cap, cur, e, hbs, hh, r⟩
  · exact .inl h0
  · refine .inr ⟨g, cap, cur, e, hbs, ?_, r⟩
    rw [hb.block g (by
      rcases Nat.lt_or_ge g wr.heap.size with hlt | hge
      · exact hlt
      · rw [Array.getElem?_eq_none hge] at hh; cases hh)]
    exact hh

end Go.Proofs.Ytjcibffhlhdjeaa
