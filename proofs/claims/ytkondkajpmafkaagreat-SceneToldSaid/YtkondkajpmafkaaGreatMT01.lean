/-
  10 texts in one file, each with its own heading.
-/
import Derived.Test.YtkondkajpmafkaaGreatMT00
import Derived.Maps.AppendAt
import Derived.Deep.QuietTactic
import Derived.BigQuiet
import Derived.WalkKit
import Derived.ProofKit
import Derived.OpenShut
import Derived.Deep.Slices
import Derived.Laws.IdiomArrays
/-
  What package vec's Least and Greatest answer.
-/
namespace Go.Proofs.YtkondkajpmafkaaGreat
open Go.RowKit

def bet (bt : Int → Int → Bool) (b x : Int) : Int := if bt x b then x else b
def betV (bt : Int → Int → Bool) (b x : V3) : V3 := (bet bt b.1 x.1, bet bt b.2.1 x.2.1, bet bt b.2.2 x.2.2)
def pk (bt : Int → Int → Bool) : List V3 → V3
  | [] => zeroV
  | v :: r => r.foldl (betV bt) v
def lessB (x y : Int) : Bool := decide (x < y)
theorem bet_yes {bt : Int → Int → Bool} {b x : Int} (h : bt x b = true) : bet bt b x = x := by unfold bet; rw [if_pos h]
theorem bet_no {bt : Int → Int → Bool} {b x : Int} (h : bt x b = false) : bet bt b x = b := by unfold bet; rw [h]; rfl

theorem pk_one {bt : Int → Int → Bool} {vs : List V3} {v : V3} (h : vs[0]? = some v) : pk bt (vs.take 1) = v := by
  cases vs with
  | nil => simp at h
  | cons a r => simp at h; subst h; simp [pk]
theorem pk_succ {bt : Int → Int → Bool} {vs : List V3} {v : V3} {k : Nat} (h : vs[k + 1]? = some v) : pk bt (vs.take (k + 2)) = betV bt (pk bt (vs.take (k + 1))) v := by
  cases vs with
  | nil => simp at h
  | cons a r =>
    have h' : r[k]? = some v := by simpa using h
    simp only [List.take_succ_cons, pk]
    rw [List.take_add_one, h']
    simp
theorem pk_all {bt : Int → Int → Bool} {vs : List V3} {k : Nat} (h : vs.length ≤ k) : pk bt (vs.take k) = pk bt vs := by rw [List.take_of_length_le h]

def Compares (F : Nat) (bt : Int → Int → Bool) : Prop := ∀ x y w, Calls Tryz.prog F #[.int .i64 x, .int .i64 y] w fun e w' => e = .returned (.bool (bt x y)) ∧ w = w'

set_option maxHeartbeats 400000 in
theorem less_any : Compares 199 lessB := by
  intro x y w
  unfold lessB
  go_enter Tryz.func199, Tryz.ntmps199
  go_wp2
  go_ret
  exact ⟨rfl, rfl⟩
theorem enters_less : Enters 199 := fun _ _ => by kernel_rfl
def AGG (v : V3) : Value := .agg #[.int .i64 v.1, .int .i64 v.2.1, .int .i64 v.2.2]
def BV (w : World) (g : Nat) (v : V3) : Prop := Blk w g 39 #[.int .i64 v.1, .int .i64 v.2.1, .int .i64 v.2.2]

set_option maxHeartbeats 400000 in
theorem pick_empty (F : Nat) (a : Option Addr) (cap : Nat) (w : World) :
    Calls Tryz.prog 198 #[.slice a 0 cap, .func (.func F) #[] #[]] w fun e w' => e = .returned (.agg #[.int .i64 0, .int .i64 0, .int .i64 0]) ∧ Below w.heap.size w w' := by
  go_enter Tryz.func198, Tryz.ntmps198
  go_wp2
  exact bodyPost_ret (v := .agg #[.int .i64 0, .int .i64 0, .int .i64 0]) (by simp [results, Tryz.results198, go_sem]) rfl ⟨rfl, alloc_below _ _⟩

theorem idx0 (x y z : Int) (w : World) : (Instr.index 39 (.agg #[.int .i64 x, .int .i64 y, .int .i64 z]) (.int .i64 0)).run Tryz.prog w = .ok (.int .i64 x) w := by kernel_rfl
theorem idx1 (x y z : Int) (w : World) : (Instr.index 39 (.agg #[.int .i64 x, .int .i64 y, .int .i64 z]) (.int .i64 1)).run Tryz.prog w = .ok (.int .i64 y) w := by kernel_rfl
theorem idx2 (x y z : Int) (w : World) : (Instr.index 39 (.agg #[.int .i64 x, .int .i64 y, .int .i64 z]) (.int .i64 2)).run Tryz.prog w = .ok (.int .i64 z) w := by kernel_rfl

def mid (bt : Int → Int → Bool) (b x : V3) (p : Nat) : V3 := (if 0 < p then bet bt b.1 x.1 else b.1, if 1 < p then bet bt b.2.1 x.2.1 else b.2.1, if 2 < p then bet bt b.2.2 x.2.2 else b.2.2)

theorem mid_yes0 {bt : Int → Int → Bool} {b0 b1 b2 x y z : Int} {w : World} {g : Nat} (h : bt x b0 = true) (hB : BV w g (mid bt (b0, b1, b2) (x, y, z) 0)) : BV (w.setCell ⟨g, 0, none⟩ (.int .i64 x)) g (mid bt (b0, b1, b2) (x, y, z) 1) := by
  have h1 := Blk.set_ hB 0 (.int .i64 x)
  have e := bet_yes h
  unfold BV
  simp only [mid, e] at h1 ⊢
  exact h1
theorem mid_no0 {bt : Int → Int → Bool} {b0 b1 b2 x y z : Int} {w : World} {g : Nat} (h : bt x b0 = false) (hB : BV w g (mid bt (b0, b1, b2) (x, y, z) 0)) : BV w g (mid bt (b0, b1, b2) (x, y, z) 1) := by
  have e := bet_no h
  unfold BV at hB ⊢
  simp only [mid, e] at hB ⊢
  exact hB
theorem mid_yes1 {bt : Int → Int → Bool} {b0 b1 b2 x y z : Int} {w : World} {g : Nat} (h : bt y b1 = true) (hB : BV w g (mid bt (b0, b1, b2) (x, y, z) 1)) : BV (w.setCell ⟨g, 1, none⟩ (.int .i64 y)) g (mid bt (b0, b1, b2) (x, y, z) 2) := by
  have h1 := Blk.set_ hB 1 (.int .i64 y)
  have e := bet_yes h
  unfold BV
  simp only [mid, e] at h1 ⊢
  exact h1
theorem mid_no1 {bt : Int → Int → Bool} {b0 b1 b2 x y z : Int} {w : World} {g : Nat} (h : bt y b1 = false) (hB : BV w g (mid bt (b0, b1, b2) (x, y, z) 1)) : BV w g (mid bt (b0, b1, b2) (x, y, z) 2) := by
  have e := bet_no h
  unfold BV at hB ⊢
  simp only [mid, e] at hB ⊢
  exact hB
theorem mid_yes2 {bt : Int → Int → Bool} {b0 b1 b2 x y z : Int} {w : World} {g : Nat} (h : bt z b2 = true) (hB : BV w g (mid bt (b0, b1, b2) (x, y, z) 2)) : BV (w.setCell ⟨g, 2, none⟩ (.int .i64 z)) g (mid bt (b0, b1, b2) (x, y, z) 3) := by
  have h1 := Blk.set_ hB 2 (.int .i64 z)
  have e := bet_yes h
  unfold BV
  simp only [mid, e] at h1 ⊢
  exact h1
theorem mid_no2 {bt : Int → Int → Bool} {b0 b1 b2 x y z : Int} {w : World} {g : Nat} (h : bt z b2 = false) (hB : BV w g (mid bt (b0, b1, b2) (x, y, z) 2)) : BV w g (mid bt (b0, b1, b2) (x, y, z) 3) := by
  have e := bet_no h
  unfold BV at hB ⊢
  simp only [mid, e] at hB ⊢
  exact hB

set_option maxHeartbeats 1000000 in
theorem pick_far (F : Nat) (bt : Int → Int → Bool) (hF : Enters F) (hc : Compares F bt) (b off len cap : Nat) (vs : List V3) (w : World) (hlen : 0 < len) (hcap : len ≤ cap) (hc1 : 1 < cap) (hbig : cap ≤ 9223372036854775807) (row : VRow w (some ⟨b, off, none⟩) len vs) :
    Calls Tryz.prog 198 #[.slice (some ⟨b, off, none⟩) len cap, .func (.func F) #[] #[]] w fun e w' => e = .returned (AGG (pk bt vs)) ∧ Below w.heap.size w w' := by
  have HL := Lib.hid row.1
  have HRow := Lib.hid row
  have HCmp := Lib.hid hc
  clear row hc
  unfold Enters at hF
  obtain ⟨b', off', x, y, z, he, hv, c0, c1, c2⟩ := (vrow_keep HRow.out (alloc_below _ (.cells #[.int .i64 0, .int .i64 0, .int .i64 0] 39))).at_ hlen
  obtain ⟨rfl, rfl⟩ : b' = b ∧ off' = off := by simp at he; exact ⟨he.1.symm, he.2.symm⟩
  have HV := Lib.hid hv
  clear hv he
  simp only [Nat.zero_mul, Nat.add_zero] at c0 c1 c2
  have hne : (len == 0) = false := by simp; omega
  have hne' : ((len : Int) == 0) = false := by simp; omega
  go_enter Tryz.func198, Tryz.ntmps198
  go_wp2
  go_loopw [20] (fun i wr => ∃ k : Nat, k ≤ len - 1 ∧ i = .int .i64 k ∧ BV wr (w.heap.size + 1) (pk bt (vs.take (k + 1))) ∧ BV wr w.heap.size zeroV ∧ Below w.heap.size w wr) (fun i _ => len - 1 - (intOf i).toNat)
  case atStart =>
    refine ⟨0, Nat.zero_le _, rfl, ?_, (Blk.new w _ _).alloc _, balloc (alloc_below _ _) _⟩
    rw [pk_one HV.out]
    exact blkAt (Blk.new (w.alloc _) _ _) (by simp)
  case round =>
    obtain ⟨k, hk, rfl, hr, hz, hb⟩ := hrel
    have HR := Lib.hid hr
    have HZ := Lib.hid hz
    have HB := Lib.hid hb
    clear hr hz hb c0 c1 c2
    by_cases hlt : k < len - 1
    · obtain ⟨b2, off2, x1, y1, z1, he, hv, c0, c1, c2⟩ := (vrow_keep HRow.out HB.out).at_ (show k + 1 < len by omega)
      obtain ⟨rfl, rfl⟩ : b2 = b' ∧ off2 = off' := by simp at he; exact ⟨he.1.symm, he.2.symm⟩
      have HV2 := Lib.hid hv
      clear hv he
      rw [show off2 + (k + 1) * 3 = off2 + 3 + k * 3 by omega] at c0 c1 c2
      obtain ⟨⟨p0, p1, p2⟩, hp⟩ : ∃ p, p = pk bt (vs.take (k + 1)) := ⟨_, rfl⟩
      rw [← hp] at HR
      have HP := Lib.hid hp
      clear hp
      go_wp2
      go_loopw [25] (fun i wi => ∃ q : Nat, q ≤ 3 ∧ i = .int .i64 q ∧ BV wi (w.heap.size + 1) (mid bt (p0, p1, p2) (x1, y1, z1) q) ∧ BV wi w.heap.size zeroV ∧ Below w.heap.size w wi) (fun i _ => 3 - (intOf i).toNat)
      case atStart => exact ⟨0, by omega, rfl, HR.out.alloc _, HZ.out.alloc _, balloc HB.out _⟩
      case round =>
        obtain ⟨q, hq, rfl, hr, hz, hb⟩ := hrel
        have HR2 := Lib.hid hr
        have HZ2 := Lib.hid hz
        have HB2 := Lib.hid hb
        clear hr hz hb
        obtain rfl | rfl | rfl | rfl : q = 0 ∨ q = 1 ∨ q = 2 ∨ q = 3 := by omega
        · obtain ⟨d0, d1, d2, f0, f1, f2⟩ := blk3 (x := .int .i64 p0) (y := .int .i64 p1) (z := .int .i64 p2) HR2.out
          have hi := idx0 x1 y1 z1
          by_cases hcm : bt x1 p0 = true
          · go_wp2_with fail
            refine (HCmp.out _ _ _).mono ?_
            rintro e w' ⟨rfl, rfl⟩
            go_wp2
            go_roundw
            case rel => exact ⟨1, by omega, rfl, mid_yes0 hcm HR2.out, HZ2.out.far (by simp) _, HB2.out.setCell (by simp) _⟩
            case measure => simp [intOf]
          · have hcm' : bt x1 p0 = false := by simpa using hcm
            clear hcm
            go_wp2_with fail
            refine (HCmp.out _ _ _).mono ?_
            rintro e w' ⟨rfl, rfl⟩
            go_wp2
            go_roundw
            case rel => exact ⟨1, by omega, rfl, mid_no0 hcm' HR2.out, HZ2.out, HB2.out⟩
            case measure => simp [intOf]
        · obtain ⟨d0, d1, d2, f0, f1, f2⟩ := blk3 (x := .int .i64 (bet bt p0 x1)) (y := .int .i64 p1) (z := .int .i64 p2) HR2.out
          have hi := idx1 x1 y1 z1
          by_cases hcm : bt y1 p1 = true
          · go_wp2_with fail
            refine (HCmp.out _ _ _).mono ?_
            rintro e w' ⟨rfl, rfl⟩
            go_wp2
            go_roundw
            case rel => exact ⟨2, by omega, rfl, mid_yes1 hcm HR2.out, HZ2.out.far (by simp) _, HB2.out.setCell (by simp) _⟩
            case measure => simp [intOf]
          · have hcm' : bt y1 p1 = false := by simpa using hcm
            clear hcm
            go_wp2_with fail
            refine (HCmp.out _ _ _).mono ?_
            rintro e w' ⟨rfl, rfl⟩
            go_wp2
            go_roundw
            case rel => exact ⟨2, by omega, rfl, mid_no1 hcm' HR2.out, HZ2.out, HB2.out⟩
            case measure => simp [intOf]
        · obtain ⟨d0, d1, d2, f0, f1, f2⟩ := blk3 (x := .int .i64 (bet bt p0 x1)) (y := .int .i64 (bet bt p1 y1)) (z := .int .i64 p2) HR2.out
          have hi := idx2 x1 y1 z1
          by_cases hcm : bt z1 p2 = true
          · go_wp2_with fail
            refine (HCmp.out _ _ _).mono ?_
            rintro e w' ⟨rfl, rfl⟩
            go_wp2
            go_roundw
            case rel => exact ⟨3, by omega, rfl, mid_yes2 hcm HR2.out, HZ2.out.far (by simp) _, HB2.out.setCell (by simp) _⟩
            case measure => simp [intOf]
          · have hcm' : bt z1 p2 = false := by simpa using hcm
            clear hcm
            go_wp2_with fail
            refine (HCmp.out _ _ _).mono ?_
            rintro e w' ⟨rfl, rfl⟩
            go_wp2
            go_roundw
            case rel => exact ⟨3, by omega, rfl, mid_no2 hcm' HR2.out, HZ2.out, HB2.out⟩
            case measure => simp [intOf]
        · go_wp2
          go_roundw
          case rel => exact ⟨k + 1, by omega, by go_num, by rw [pk_succ HV2.out, ← HP.out]; exact HR2.out, HZ2.out, HB2.out⟩
          case measure => simp [intOf]; omega
    · obtain ⟨⟨p0, p1, p2⟩, hp⟩ : ∃ p, p = pk bt (vs.take (k + 1)) := ⟨_, rfl⟩
      rw [← hp] at HR
      rw [pk_all (by rw [HL.out]; omega)] at hp
      have HP := Lib.hid hp
      clear hp
      obtain ⟨d0, d1, d2, f0, f1, f2⟩ := blk3 (x := .int .i64 p0) (y := .int .i64 p1) (z := .int .i64 p2) HR.out
      obtain ⟨z0, z1, z2, g0, g1, g2⟩ := blk3 (x := .int .i64 0) (y := .int .i64 0) (z := .int .i64 0) HZ.out
      go_wp2
      exact bodyPost_ret (v := .agg #[.int .i64 p0, .int .i64 p1, .int .i64 p2]) (by simp [results, Tryz.results198, go_sem, z0, z1, z2]) rfl ⟨by rw [← HP.out]; rfl, bset3 HB.out (by omega)⟩

set_option maxHeartbeats 400000 in
theorem pick_near (F : Nat) (bt : Int → Int → Bool) (b off : Nat) (vs : List V3) (w : World) (row : VRow w (some ⟨b, off, none⟩) 1 vs) :
    Calls Tryz.prog 198 #[.slice (some ⟨b, off, none⟩) 1 1, .func (.func F) #[] #[]] w fun e w' => e = .returned (AGG (pk bt vs)) ∧ Below w.heap.size w w' := by
  have HL := Lib.hid row.1
  obtain ⟨b', off', x, y, z, he, hv, c0, c1, c2⟩ := (vrow_keep row (alloc_below _ (.cells #[.int .i64 0, .int .i64 0, .int .i64 0] 39))).at_ (show 0 < 1 by omega)
  obtain ⟨rfl, rfl⟩ : b' = b ∧ off' = off := by simp at he; exact ⟨he.1.symm, he.2.symm⟩
  have hp : pk bt vs = (x, y, z) := by rw [← pk_all (k := 1) (by rw [HL.out]; omega), pk_one hv]
  have HP := Lib.hid hp
  clear hv he row hp
  simp only [Nat.zero_mul, Nat.add_zero] at c0 c1 c2
  go_enter Tryz.func198, Tryz.ntmps198
  go_wp2
  refine wp_loop_rounds 1 ?_
  rw [rounds_succ]
  go_wp2
  exact bodyPost_ret (v := .agg #[.int .i64 x, .int .i64 y, .int .i64 z]) (by simp [results, Tryz.results198, go_sem]) rfl ⟨by rw [HP.out]; rfl, by first | exact balloc (alloc_below _ _) _ | exact bset3 (balloc (alloc_below _ _) _) (by omega)⟩

theorem pick_any (F : Nat) (bt : Int → Int → Bool) (hF : Enters F) (hc : Compares F bt) (a : Option Addr) (len cap : Nat) (vs : List V3) (w : World) (hcap : len ≤ cap) (hbig : cap ≤ 9223372036854775807) (row : VRow w a len vs) :
    Calls Tryz.prog 198 #[.slice a len cap, .func (.func F) #[] #[]] w fun e w' => e = .returned (AGG (pk bt vs)) ∧ Below w.heap.size w w' := by
  by_cases h0 : len = 0
  · subst h0
    obtain rfl := List.eq_nil_of_length_eq_zero row.1
    exact pick_empty F a cap w
  · obtain ⟨b, off, rfl, _⟩ : ∃ b off, a = some ⟨b, off, none⟩ ∧ True := by
      rcases row.2.2 with h | ⟨b, off, h, _⟩
      · exact absurd h h0
      · exact ⟨b, off, h, trivial⟩
    by_cases h1 : cap = 1
    · subst h1
      obtain rfl : len = 1 := by omega
      exact pick_near F bt b off vs w row
    · exact pick_far F bt hF hc b off len cap vs w (by omega) hcap (by omega) hbig row

set_option maxHeartbeats 400000 in
theorem least_any (a : Option Addr) (len cap : Nat) (vs : List V3) (w : World) (hcap : len ≤ cap) (hbig : cap ≤ 9223372036854775807) (row : VRow w a len vs) :
    Calls Tryz.prog 182 #[.slice a len cap] w fun e w' => e = .returned (AGG (pk lessB vs)) ∧ Below w.heap.size w w' := by
  have HRow := Lib.hid row
  clear row
  obtain ⟨⟨p0, p1, p2⟩, hp⟩ : ∃ p, p = pk lessB vs := ⟨_, rfl⟩
  have HP := Lib.hid hp
  clear hp
  go_enter Tryz.func182, Tryz.ntmps182
  go_wp2_with fail
  refine (pick_any _ lessB enters_less less_any _ _ _ vs _ hcap hbig (vrow_keep HRow.out (alloc_below _ _))).mono ?_
  rw [← HP.out]
  unfold AGG
  rintro e w1 ⟨rfl, b1⟩
  have k1 := Lib.hid ((Blk.new w 39 _).keep b1)
  have B1 := Lib.hid (bthen (alloc_below _ _) b1)
  clear b1
  obtain ⟨c10, c11, c12, f10, f11, f12⟩ := blk3 k1.out
  go_wp2
  exact bodyPost_ret (v := .agg #[.int .i64 p0, .int .i64 p1, .int .i64 p2]) (by simp [results, Tryz.results182, go_sem, c10, c11, c12]) rfl ⟨by rw [← HP.out]; rfl, bset3 B1.out (by omega)⟩

theorem eqVec (a b c d e f : Int) (w : World) : (Op.equalIn 10000 39 (.agg #[.int .i64 a, .int .i64 b, .int .i64 c]) (.agg #[.int .i64 d, .int .i64 e, .int .i64 f])).run Tryz.prog w = .ok (a == d && b == e && c == f) w := by
  have u3 := Tryz.underlying35
  have a3 := Tryz.isAgg35
  have z3 := Tryz.sizeOf35
  rw [show (10000 : Nat) = 9999 + 1 from rfl, Op.equalIn]
  simp only [Sem.run_bind, run_underlying Tryz.underlying39, Result.andThen_ok]
  simp only [Std.Legacy.Range.forIn_eq_forIn_range', Std.Legacy.Range.size, Nat.sub_zero, Nat.add_sub_cancel, Nat.div_one, List.range'_succ, List.range'_zero, List.forIn_cons, List.forIn_nil]
  go_simp
  by_cases h1 : a = d <;> by_cases h2 : b = e <;> by_cases h3 : c = f <;> simp [h1, h2, h3]

theorem Blk.drewN {w : World} {g : Nat} {t : TypeId} {cs : Array Value} (h : Blk w g t cs) (n : Nat) : Blk (w.drewN n) g t cs := h
end Go.Proofs.YtkondkajpmafkaaGreat
namespace Go.Proofs.YtkondkajpmafkaaGreat
open Go.ChangeShapes Go.WideShapes Go.ChangeAt Go.RowKit Go.Deep

section
variable {H : Type} {enc : TypeId × Value → H} {w : World} {base : Nat} {spare : Nat → Bool} {held : Bool}

end
end Go.Proofs.YtkondkajpmafkaaGreat
namespace Go.Proofs.YtkondkajpmafkaaGreat
open Go.RowKit

theorem lt6 {k : Nat} (hk : k < 6) : k = 0 ∨ k = 1 ∨ k = 2 ∨ k = 3 ∨ k = 4 ∨ k = 5 := by omega
def boxTo (B : Nat → Int) : Nat → Bool
  | 0 => rightV [(B 0, B 1, B 2), (B 3, B 4, B 5)]
  | k + 1 => boxTo B k && decide (B k ≤ B (3 + k))
def okBox (B : Nat → Int) : Bool := boxTo B 3
end Go.Proofs.YtkondkajpmafkaaGreat
