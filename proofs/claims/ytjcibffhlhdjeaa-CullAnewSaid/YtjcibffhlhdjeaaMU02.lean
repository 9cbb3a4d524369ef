/-
  5 texts in one file, each with its own heading.
-/
import Derived.Test.YtjcibffhlhdjeaaMU01
import Derived.WalkKit
import Derived.ProofKit
import Derived.OpenShut
import Derived.Deep.Slices
import Derived.Laws.IdiomArrays
/-
  What the reference's Edge of layer 2 answers.
-/
namespace Go.Proofs.Ytjcibffhlhdjeaa
open Go.RowKit

end Go.Proofs.Ytjcibffhlhdjeaa
namespace Go.Proofs.Ytjcibffhlhdjeaa
open Go.ChangeShapes Go.WideShapes Go.ChangeAt Go.RowKit Go.Deep

section
variable {H : Type} {enc : TypeId × Value → H} {w : World} {base : Nat} {spare : Nat → Bool} {held : Bool}

end
end Go.Proofs.Ytjcibffhlhdjeaa
namespace Go.Proofs.Ytjcibffhlhdjeaa
open Go.RowKit

theorem lt6 {k : Nat} (hk : k < 6) : k = 0 ∨ k = 1 ∨ k = 2 ∨ k = 3 ∨ k = 4 ∨ k = 5 := by omega
theorem Blk.at6 {w : World} {g : Nat} {t : TypeId} {B : Nat → Int} (h : Blk w g t #[.int .i64 (B 0), .int .i64 (B 1), .int .i64 (B 2), .int .i64 (B 3), .int .i64 (B 4), .int .i64 (B 5)]) {k : Nat} (hk : k < 6) : w.cell? ⟨g, k, none⟩ = some (.int .i64 (B k)) := by
  rcases lt6 hk with rfl | rfl | rfl | rfl | rfl | rfl
  · exact h.cell 0
  · exact h.cell 1
  · exact h.cell 2
  · exact h.cell 3
  · exact h.cell 4
  · exact h.cell 5
theorem Blk.atv {w : World} {g : Nat} {t : TypeId} {V : Nat → Int} (h : Blk w g t #[.int .i64 (V 0), .int .i64 (V 1), .int .i64 (V 2)]) {k : Nat} (hk : k < 3) : w.cell? ⟨g, k, none⟩ = some (.int .i64 (V k)) := by
  obtain rfl | rfl | rfl : k = 0 ∨ k = 1 ∨ k = 2 := by omega
  · exact h.cell 0
  · exact h.cell 1
  · exact h.cell 2
def boxTo (B : Nat → Int) : Nat → Bool
  | 0 => rightV [(B 0, B 1, B 2), (B 3, B 4, B 5)]
  | k + 1 => boxTo B k && decide (B k ≤ B (3 + k))
def okBox (B : Nat → Int) : Bool := boxTo B 3
def okPlane (P : Nat → Int) : Bool := rightB [P 0, P 1, P 2, P 3]
set_option maxHeartbeats 1000000 in
theorem rbox_any (B : Nat → Int) (w : World) :
    Calls Try.prog 72 #[.agg #[.int .i64 (B 0), .int .i64 (B 1), .int .i64 (B 2), .int .i64 (B 3), .int .i64 (B 4), .int .i64 (B 5)]] w fun e w' => e = .returned (.bool (okBox B)) ∧ Below w.heap.size w w' := by
  go_enter Try.func72, Try.ntmps72
  go_wp2_with fail
  refine (rvright_any _ _ _ [(B 0, B 1, B 2), (B 3, B 4, B 5)] _ (vrow2 (blkAt (Blk.new _ _ _) (by simp)))).mono ?_
  rintro e w1 ⟨rfl, b1⟩
  have KB := Lib.hid (((Blk.new w 48 _).alloc _).keep b1)
  have HB := Lib.hid (bthen (balloc (alloc_below _ _) _) b1)
  clear b1
  go_wp2
  go_loopw [3, 4] (fun r i wr => ∃ k : Nat, k ≤ 3 ∧ i = .int .i64 k ∧ r = .bool (boxTo B k) ∧ Blk wr w.heap.size 48 #[.int .i64 (B 0), .int .i64 (B 1), .int .i64 (B 2), .int .i64 (B 3), .int .i64 (B 4), .int .i64 (B 5)] ∧ Below w.heap.size w wr) (fun _ i _ => 3 - (intOf i).toNat)
  case atStart => exact ⟨0, by omega, rfl, rfl, KB.out, HB.out⟩
  case round =>
    clear KB HB
    obtain ⟨k, hk, rfl, rfl, hkb, hb⟩ := hrel
    have KB := Lib.hid hkb
    have HB := Lib.hid hb
    clear hkb hb
    by_cases hlt : k < 3
    · have cx := KB.out.at6 (k := k) (by omega)
      have cy := KB.out.at6 (k := 3 + k) (by omega)
      have HS : Hid (boxTo B (k + 1) = (boxTo B k && decide (B k ≤ B (3 + k)))) := Lib.hid rfl
      obtain ⟨x, hx⟩ : ∃ x, x = B k := ⟨_, rfl⟩
      obtain ⟨y, hy⟩ : ∃ y, y = B (3 + k) := ⟨_, rfl⟩
      obtain ⟨s, hs⟩ : ∃ s, s = boxTo B k := ⟨_, rfl⟩
      rw [← hx] at cx
      rw [← hy] at cy
      rw [← hx, ← hy, ← hs] at HS
      rw [← hs]
      clear hx hy hs
      have hk0 : (0 : Int) ≤ (k : Int) := by omega
      have hk3 : (k : Int) < 3 := by omega
      cases s
      · go_wp2
        go_quiet (fail)
        go_wp2
        go_roundw
        case rel => exact ⟨k + 1, by omega, by go_num, by rw [HS.out]; rfl, KB.out.drewN nq, Go.below_drewN HB.out nq⟩
        case measure => simp [intOf] <;> omega
      · go_wp2
        go_quiet (fail)
        go_wp2
        go_roundw
        case rel => exact ⟨k + 1, by omega, by go_num, by rw [HS.out]; rfl, KB.out.drewN nq, Go.below_drewN HB.out nq⟩
        case measure => simp [intOf] <;> omega
    · obtain rfl : k = 3 := by omega
      go_wp2
      go_ret
      exact ⟨rfl, HB.out⟩

theorem row4 {w : World} {g : Nat} {t : TypeId} {P : Nat → Int} (h : Blk w g t #[.int .i64 (P 0), .int .i64 (P 1), .int .i64 (P 2), .int .i64 (P 3)]) : Row w (some ⟨g, 0, none⟩) 4 [P 0, P 1, P 2, P 3] := by
  refine ⟨rfl, by omega, Or.inr ⟨_, _, rfl, fun i hi => ?_⟩⟩
  obtain rfl | rfl | rfl | rfl : i = 0 ∨ i = 1 ∨ i = 2 ∨ i = 3 := by omega
  · exact h.cell 0
  · exact h.cell 1
  · exact h.cell 2
  · exact h.cell 3

set_option maxHeartbeats 1000000 in
theorem rplane_any (P : Nat → Int) (w : World) :
    Calls Try.prog 44 #[.agg #[.int .i64 (P 0), .int .i64 (P 1), .int .i64 (P 2), .int .i64 (P 3)]] w fun e w' => e = .returned (.bool (okPlane P)) ∧ Below w.heap.size w w' := by
  go_enter Try.func44, Try.ntmps44
  go_wp2_with fail
  refine (rright_any _ _ _ [P 0, P 1, P 2, P 3] _ (row4 (blkAt (Blk.new _ _ _) (by simp)))).mono ?_
  rintro e w1 ⟨rfl, rfl⟩
  go_wp2
  go_ret
  exact ⟨rfl, balloc (alloc_below _ _) _⟩

def Apart (v u : Value) : Prop := ∀ k, v.ownBlock = some k → u.ownBlock ≠ some k
theorem Apart.symm {v u : Value} (h : Apart v u) : Apart u v := fun k h1 h2 => h k h2 h1
theorem own_lt {w : World} {base : Nat} {v : Value} {n : Nat} {zs : List Int} (h : Owns w base v n zs) : ∀ k, v.ownBlock = some k → k < w.heap.size := fun k hk => by
  rcases h.2 with ⟨rfl, _⟩ | ⟨g, cap, cur, rfl, _, hh, _⟩
  · cases hk
  · obtain rfl : g = k := by simpa [Value.ownBlock] using hk
    exact (Array.getElem?_eq_some_iff.1 hh).1
theorem own_other {w w' : World} {base : Nat} {v u : Value} {n : Nat} {zs : List Int} (h : Owns w base u n zs) (hg : w.grownBy w' v.ownBlock) (ha : Apart v u) : Owns w' base u n zs := by
  have hl := own_lt h
  refine ⟨h.1, ?_⟩
  rcases h.2 with h0 | ⟨g, cap, cur, e, hb, hh, r⟩
  · exact .inl h0
  · refine .inr ⟨g, cap, cur, e, hb, ?_, r⟩
    have hgk : u.ownBlock = some g := by rw [e]; rfl
    rw [hg.block g (hl g hgk) (fun c => ha g c.symm hgk)]
    exact hh
theorem apart_next {w : World} {base : Nat} {v v' u : Value} {n : Nat} {zs : List Int} {S : Nat} (h : Owns w base u n zs) (ha : Apart v u) (hv : v'.ownBlock = v.ownBlock ∨ v'.ownBlock = some S) (hS : w.heap.size ≤ S) : Apart v' u := fun k h1 h2 => by
  rcases hv with e | e
  · exact ha k (by rw [← e]; exact h1) h2
  · have := own_lt h k h2
    rw [e] at h1
    simp at h1
    omega

def enX (N B : Nat → Int) (k : Nat) : Int := mulV (N k) (B k)
def enY (N B : Nat → Int) (k : Nat) : Int := mulV (N k) (B (3 + k))
def enBad (N B : Nat → Int) (k : Nat) : Bool := (mulE (N k) (B k) != 0) || (mulE (N k) (B (3 + k)) != 0)
def enLoL (N B : Nat → Int) (t : Int) : List Int := [t, min (enX N B 0) (enY N B 0), min (enX N B 1) (enY N B 1), min (enX N B 2) (enY N B 2)]
def enHiL (N B : Nat → Int) (t : Int) : List Int := [t, max (enX N B 0) (enY N B 0), max (enX N B 1) (enY N B 1), max (enX N B 2) (enY N B 2)]
def enE (N B : Nat → Int) (t : Int) : Int := if enBad N B 0 || enBad N B 1 || enBad N B 2 then 6 else if (addE (enLoL N B t) != 0) || (addE (enHiL N B t) != 0) then 6 else 0
def enLo (N B : Nat → Int) (t : Int) : Int := gate (enE N B t) (addV (enLoL N B t))
def enHi (N B : Nat → Int) (t : Int) : Int := gate (enE N B t) (addV (enHiL N B t))

theorem en_no {N B : Nat → Int} {t : Int} (h : enE N B t = 6) : enLo N B t = 0 ∧ enHi N B t = 0 := by unfold enLo enHi; rw [h]; exact ⟨rfl, rfl⟩
theorem enE_bad {N B : Nat → Int} {t : Int} {k : Nat} (h : enBad N B k = true) (hk : k < 3) : enE N B t = 6 := by
  unfold enE
  obtain rfl | rfl | rfl : k = 0 ∨ k = 1 ∨ k = 2 := by omega
  · rw [if_pos (by rw [h]; rfl)]
  · rw [if_pos (by rw [h, Bool.or_true]; rfl)]
  · rw [if_pos (by rw [h, Bool.or_true])]
theorem en_bad {N B : Nat → Int} {t : Int} {k : Nat} (h : enBad N B k = true) (hk : k < 3) : Ending.returned (.tuple #[.int .i64 0, .int .i64 0, .int .i64 6]) = .returned (.tuple #[.int .i64 (enLo N B t), .int .i64 (enHi N B t), .int .i64 (enE N B t)]) := by
  have e := enE_bad (t := t) h hk
  rw [(en_no e).1, (en_no e).2, e]
theorem enLo_take (N B : Nat → Int) (t : Int) {k : Nat} (hk : k < 3) : (enLoL N B t).take (k + 1 + 1) = (enLoL N B t).take (k + 1) ++ [min (enX N B k) (enY N B k)] := by
  obtain rfl | rfl | rfl : k = 0 ∨ k = 1 ∨ k = 2 := by omega
  · rfl
  · rfl
  · rfl
theorem enHi_take (N B : Nat → Int) (t : Int) {k : Nat} (hk : k < 3) : (enHiL N B t).take (k + 1 + 1) = (enHiL N B t).take (k + 1) ++ [max (enX N B k) (enY N B k)] := by
  obtain rfl | rfl | rfl : k = 0 ∨ k = 1 ∨ k = 2 := by omega
  · rfl
  · rfl
  · rfl
theorem owns_first (w : World) (base : Nat) (x : Int) (hb : base ≤ w.heap.size) (N : Nat) (hN : w.heap.size = N) : Owns (w.alloc (.cells #[.int .i64 x] 36)) base (.slice (some ⟨N, 0, none⟩) 1 1) 1 [x] := by
  subst hN
  exact World.ownsRow_lit w #[.int .i64 x] 1 hb (by unfold maxLen; omega) rfl
theorem own_alloc {w : World} {base : Nat} {v : Value} {n : Nat} {zs : List Int} (h : Owns w base v n zs) (o : Obj) : Owns (w.alloc o) base v n zs := own_keep h (alloc_below w o)

set_option maxHeartbeats 2000000 in
theorem rends_any (N B : Nat → Int) (t : Int) (w : World) :
    Calls Try.prog 73 #[.agg #[.int .i64 (N 0), .int .i64 (N 1), .int .i64 (N 2)], .int .i64 t, .agg #[.int .i64 (B 0), .int .i64 (B 1), .int .i64 (B 2), .int .i64 (B 3), .int .i64 (B 4), .int .i64 (B 5)]] w fun e w' => e = .returned (.tuple #[.int .i64 (enLo N B t), .int .i64 (enHi N B t), .int .i64 (enE N B t)]) ∧ Below w.heap.size w w' := by
  obtain ⟨i0, hi0, hz0, hz1, hz2⟩ := info_parts f_info
  have HI := Lib.hid (And.intro hi0 (And.intro hz0 (And.intro hz1 hz2)))
  clear hi0 hz0 hz1 hz2
  go_enter Try.func73, Try.ntmps73
  go_wp2
  go_loopw [9, 10, 11] (fun v u i wr => ∃ k : Nat, k ≤ 3 ∧ i = .int .i64 k ∧ (∀ j, j < k → enBad N B j = false) ∧ Owns wr (w.heap.size + 2) v (k + 1) ((enLoL N B t).take (k + 1)) ∧ Owns wr (w.heap.size + 2) u (k + 1) ((enHiL N B t).take (k + 1)) ∧ Apart v u ∧ Blk wr w.heap.size 38 #[.int .i64 (N 0), .int .i64 (N 1), .int .i64 (N 2)] ∧ Blk wr (w.heap.size + 1) 48 #[.int .i64 (B 0), .int .i64 (B 1), .int .i64 (B 2), .int .i64 (B 3), .int .i64 (B 4), .int .i64 (B 5)] ∧ Below w.heap.size w wr ∧ w.heap.size + 2 ≤ wr.heap.size) (fun _ _ i _ => 3 - (intOf i).toNat)
  case atStart =>
    refine ⟨0, by omega, rfl, fun j hj => by omega, own_alloc (owns_first _ _ t (by simp) _ (by simp)) _, owns_first _ _ t (by simp) _ (by simp), ?_, (((Blk.new w _ _).alloc _).alloc _).alloc _, blkAt (((Blk.new (w.alloc _) _ _).alloc _).alloc _) (by simp), balloc (balloc (balloc (alloc_below _ _) _) _) _, by simp⟩
    intro k h1 h2
    simp [Value.ownBlock] at h1 h2
    omega
  case round =>
    obtain ⟨k, hk, rfl, hz, ho1, ho2, hap, hkn, hkb, hb, hsz⟩ := hrel
    have HZ := Lib.hid hz
    have HO1 := Lib.hid ho1
    have HO2 := Lib.hid ho2
    have HAp := Lib.hid hap
    have KN := Lib.hid hkn
    have KB := Lib.hid hkb
    have HB := Lib.hid hb
    clear hz ho1 ho2 hap hkn hkb hb
    by_cases hlt : k < 3
    · have cn := KN.out.atv hlt
      have cx := KB.out.at6 (k := k) (by omega)
      have cy := KB.out.at6 (k := 3 + k) (by omega)
      obtain ⟨n, hn⟩ : ∃ n, n = N k := ⟨_, rfl⟩
      obtain ⟨x, hx⟩ : ∃ x, x = B k := ⟨_, rfl⟩
      obtain ⟨y, hy⟩ : ∃ y, y = B (3 + k) := ⟨_, rfl⟩
      have HD : Hid (enX N B k = mulV n x ∧ enY N B k = mulV n y ∧ enBad N B k = ((mulE n x != 0) || (mulE n y != 0))) := Lib.hid (by unfold enX enY enBad; rw [hn, hx, hy]; exact ⟨rfl, rfl, rfl⟩)
      rw [← hn] at cn
      rw [← hx] at cx
      rw [← hy] at cy
      clear hn hx hy
      have hk0 : (0 : Int) ≤ (k : Int) := by omega
      have hk3 : (k : Int) < 3 := by omega
      go_wp2
      go_region_held3 (fun w' => w'.cell? ⟨w.heap.size, k, none⟩ = some (.int .i64 n) ∧ w'.cell? ⟨w.heap.size + 1, k, none⟩ = some (.int .i64 x)) (first | exact ⟨cell_keepD b2 cn, cell_keepD b2 cx⟩ | go_keep)
        (first | (go_at_call 85; refine (rmul_any _ _ _).mono ?_; rintro e w2 ⟨rfl, b2⟩))
      have B2 := Lib.hid (bdrew b2)
      replace cn := cell_keepD b2 cn
      replace cy := cell_keepD b2 cy
      clear b2 cx
      go_wp2
      go_region_held3 (fun w' => w'.cell? ⟨w.heap.size, k, none⟩ = some (.int .i64 n) ∧ w'.cell? ⟨w.heap.size + 1, 3 + k, none⟩ = some (.int .i64 y)) (first | exact ⟨cell_keepD b3 cn, cell_keepD b3 cy⟩ | go_keep)
        (first | (go_at_call 85; refine (rmul_any _ _ _).mono ?_; rintro e w3 ⟨rfl, b3⟩))
      have B3 := Lib.hid (bthen B2.out (bdrew b3))
      clear b3 cn cy B2
      have HP1 := Lib.hid (own_keep HO1.out B3.out)
      have HP2 := Lib.hid (own_keep HO2.out B3.out)
      have KN2 := Lib.hid (KN.out.keep B3.out)
      have KB2 := Lib.hid (KB.out.keep B3.out)
      have HB2 := Lib.hid (bthen HB.out B3.out)
      have hsz2 : w.heap.size + 2 ≤ w3.heap.size := Nat.le_trans hsz B3.out.size
      clear HO1 HO2 KN KB HB B3
      obtain ⟨p, hp⟩ : ∃ p, p = mulV n x := ⟨_, rfl⟩
      obtain ⟨q, hq⟩ : ∃ q, q = mulV n y := ⟨_, rfl⟩
      obtain ⟨e1, he1⟩ : ∃ e1, e1 = mulE n x := ⟨_, rfl⟩
      obtain ⟨e2, he2⟩ : ∃ e2, e2 = mulE n y := ⟨_, rfl⟩
      rw [← hp, ← hq, ← he1, ← he2] at HD
      rw [← hp, ← hq, ← he1, ← he2]
      clear hp hq he1 he2
      by_cases h1 : e1 = 0
      · have g1 : (e1 != 0) = false := by rw [h1]; rfl
        by_cases h2 : e2 = 0
        · have g2 : (e2 != 0) = false := by rw [h2]; rfl
          have HGood : Hid (enBad N B k = false) := Lib.hid (by rw [HD.out.2.2, g1, g2]; rfl)
          clear h1 h2
          by_cases hpq : q < p
          · have HMM : Hid (min (enX N B k) (enY N B k) = q ∧ max (enX N B k) (enY N B k) = p) := Lib.hid (by rw [HD.out.1, HD.out.2.1]; omega)
            clear HD
            go_wp2_with (at_builtin; refine wpList_append_own_at _ rfl (.tmp 56) (.tmp 60) 106 rfl (w.heap.size + 2) 36 i0 (.int .i64 0) 1 8 Try.underlying106 HI.out.1 HI.out.2.1 HI.out.2.2.1 HI.out.2.2.2 rfl (by decide) _ _ _ rfl (own_alloc HP1.out _) ⟨w3.heap.size, 0, none⟩ 1 1 [.int .i64 q] rfl rfl (cell_one_new _ _ _) (by intro u hu; simp at hu; subst hu; rfl) (by unfold maxLen; omega) (by omega) (by simp; omega) ?_)
            intro v1 w4 hown1 hgrow1 _ hat1
            have HO1 := Lib.hid hown1
            have HG1 := Lib.hid hgrow1
            have HA1 := Lib.hid hat1
            clear hown1 hgrow1 hat1
            have HP3 := Lib.hid (own_other (own_alloc HP2.out _) HG1.out HAp.out)
            have HAp1 := Lib.hid (apart_next HP2.out HAp.out HA1.out (by omega))
            have KN3 := Lib.hid (KN2.out.same (grown_blk HP1.out (by omega) KN2.out.lt HG1.out))
            have KB3 := Lib.hid (KB2.out.same (grown_blk HP1.out (by omega) KB2.out.lt HG1.out))
            have HB3 := Lib.hid (grown_below HP1.out (by omega) HB2.out HB2.out.size HG1.out)
            have hsz3 : w.heap.size + 2 ≤ w4.heap.size := by have := HG1.out.size; simp at this; omega
            clear HP1 HP2 KN2 KB2 HB2 HG1 HA1 hsz2
            go_wp2_with (at_builtin; refine wpList_append_own_at _ rfl (.tmp 62) (.tmp 66) 106 rfl (w.heap.size + 2) 36 i0 (.int .i64 0) 1 8 Try.underlying106 HI.out.1 HI.out.2.1 HI.out.2.2.1 HI.out.2.2.2 rfl (by decide) _ _ _ rfl (own_alloc HP3.out _) ⟨w4.heap.size, 0, none⟩ 1 1 [.int .i64 p] rfl rfl (cell_one_new _ _ _) (by intro u hu; simp at hu; subst hu; rfl) (by unfold maxLen; omega) (by omega) (by simp; omega) ?_)
            intro v2 w5 hown2 hgrow2 _ hat2
            have HO2 := Lib.hid hown2
            have HG2 := Lib.hid hgrow2
            have HA2 := Lib.hid hat2
            clear hown2 hgrow2 hat2
            go_wp2
            go_roundw
            case rel =>
              have ho1 : Owns w4 (w.heap.size + 2) v1 (k + 1 + 1) ((enLoL N B t).take (k + 1 + 1)) := by
                unfold Owns
                rw [enLo_take N B t hlt, List.map_append, HMM.out.1]
                first | exact HO1.out | (rw [List.map_take]; exact HO1.out)
              have ho2 : Owns w5 (w.heap.size + 2) v2 (k + 1 + 1) ((enHiL N B t).take (k + 1 + 1)) := by
                unfold Owns
                rw [enHi_take N B t hlt, List.map_append, HMM.out.2]
                first | exact HO2.out | (rw [List.map_take]; exact HO2.out)
              refine ⟨k + 1, by omega, by go_num, fun j hj => ?_, own_other (own_alloc ho1 _) HG2.out HAp1.out.symm, ho2, (apart_next ho1 HAp1.out.symm HA2.out (by omega)).symm, KN3.out.same (grown_blk HP3.out (by omega) KN3.out.lt HG2.out), KB3.out.same (grown_blk HP3.out (by omega) KB3.out.lt HG2.out), grown_below HP3.out (by omega) HB3.out HB3.out.size HG2.out, by have := HG2.out.size; simp at this; omega⟩
              by_cases c : j = k
              · rw [c]; exact HGood.out
              · exact HZ.out j (by omega)
            case measure => simp [intOf] <;> omega
          · by_cases hqp : p < q
            · have HMM : Hid (min (enX N B k) (enY N B k) = p ∧ max (enX N B k) (enY N B k) = q) := Lib.hid (by rw [HD.out.1, HD.out.2.1]; omega)
              clear HD
              go_wp2_with (at_builtin; refine wpList_append_own_at _ rfl (.tmp 56) (.tmp 60) 106 rfl (w.heap.size + 2) 36 i0 (.int .i64 0) 1 8 Try.underlying106 HI.out.1 HI.out.2.1 HI.out.2.2.1 HI.out.2.2.2 rfl (by decide) _ _ _ rfl (own_alloc HP1.out _) ⟨w3.heap.size, 0, none⟩ 1 1 [.int .i64 p] rfl rfl (cell_one_new _ _ _) (by intro u hu; simp at hu; subst hu; rfl) (by unfold maxLen; omega) (by omega) (by simp; omega) ?_)
              intro v1 w4 hown1 hgrow1 _ hat1
              have HO1 := Lib.hid hown1
              have HG1 := Lib.hid hgrow1
              have HA1 := Lib.hid hat1
              clear hown1 hgrow1 hat1
              have HP3 := Lib.hid (own_other (own_alloc HP2.out _) HG1.out HAp.out)
              have HAp1 := Lib.hid (apart_next HP2.out HAp.out HA1.out (by omega))
              have KN3 := Lib.hid (KN2.out.same (grown_blk HP1.out (by omega) KN2.out.lt HG1.out))
              have KB3 := Lib.hid (KB2.out.same (grown_blk HP1.out (by omega) KB2.out.lt HG1.out))
              have HB3 := Lib.hid (grown_below HP1.out (by omega) HB2.out HB2.out.size HG1.out)
              have hsz3 : w.heap.size + 2 ≤ w4.heap.size := by have := HG1.out.size; simp at this; omega
              clear HP1 HP2 KN2 KB2 HB2 HG1 HA1 hsz2
              go_wp2_with (at_builtin; refine wpList_append_own_at _ rfl (.tmp 62) (.tmp 66) 106 rfl (w.heap.size + 2) 36 i0 (.int .i64 0) 1 8 Try.underlying106 HI.out.1 HI.out.2.1 HI.out.2.2.1 HI.out.2.2.2 rfl (by decide) _ _ _ rfl (own_alloc HP3.out _) ⟨w4.heap.size, 0, none⟩ 1 1 [.int .i64 q] rfl rfl (cell_one_new _ _ _) (by intro u hu; simp at hu; subst hu; rfl) (by unfold maxLen; omega) (by omega) (by simp; omega) ?_)
              intro v2 w5 hown2 hgrow2 _ hat2
              have HO2 := Lib.hid hown2
              have HG2 := Lib.hid hgrow2
              have HA2 := Lib.hid hat2
              clear hown2 hgrow2 hat2
              go_wp2
              go_roundw
              case rel =>
                have ho1 : Owns w4 (w.heap.size + 2) v1 (k + 1 + 1) ((enLoL N B t).take (k + 1 + 1)) := by
                  unfold Owns
                  rw [enLo_take N B t hlt, List.map_append, HMM.out.1]
                  first | exact HO1.out | (rw [List.map_take]; exact HO1.out)
                have ho2 : Owns w5 (w.heap.size + 2) v2 (k + 1 + 1) ((enHiL N B t).take (k + 1 + 1)) := by
                  unfold Owns
                  rw [enHi_take N B t hlt, List.map_append, HMM.out.2]
                  first | exact HO2.out | (rw [List.map_take]; exact HO2.out)
                refine ⟨k + 1, by omega, by go_num, fun j hj => ?_, own_other (own_alloc ho1 _) HG2.out HAp1.out.symm, ho2, (apart_next ho1 HAp1.out.symm HA2.out (by omega)).symm, KN3.out.same (grown_blk HP3.out (by omega) KN3.out.lt HG2.out), KB3.out.same (grown_blk HP3.out (by omega) KB3.out.lt HG2.out), grown_below HP3.out (by omega) HB3.out HB3.out.size HG2.out, by have := HG2.out.size; simp at this; omega⟩
                by_cases c : j = k
                · rw [c]; exact HGood.out
                · exact HZ.out j (by omega)
              case measure => simp [intOf] <;> omega
            · obtain rfl : p = q := by omega
              have HMM : Hid (min (enX N B k) (enY N B k) = p ∧ max (enX N B k) (enY N B k) = p) := Lib.hid (by rw [HD.out.1, HD.out.2.1]; omega)
              clear HD hpq hqp
              go_wp2_with (at_builtin; refine wpList_append_own_at _ rfl (.tmp 56) (.tmp 60) 106 rfl (w.heap.size + 2) 36 i0 (.int .i64 0) 1 8 Try.underlying106 HI.out.1 HI.out.2.1 HI.out.2.2.1 HI.out.2.2.2 rfl (by decide) _ _ _ rfl (own_alloc HP1.out _) ⟨w3.heap.size, 0, none⟩ 1 1 [.int .i64 p] rfl rfl (cell_one_new _ _ _) (by intro u hu; simp at hu; subst hu; rfl) (by unfold maxLen; omega) (by omega) (by simp; omega) ?_)
              intro v1 w4 hown1 hgrow1 _ hat1
              have HO1 := Lib.hid hown1
              have HG1 := Lib.hid hgrow1
              have HA1 := Lib.hid hat1
              clear hown1 hgrow1 hat1
              have HP3 := Lib.hid (own_other (own_alloc HP2.out _) HG1.out HAp.out)
              have HAp1 := Lib.hid (apart_next HP2.out HAp.out HA1.out (by omega))
              have KN3 := Lib.hid (KN2.out.same (grown_blk HP1.out (by omega) KN2.out.lt HG1.out))
              have KB3 := Lib.hid (KB2.out.same (grown_blk HP1.out (by omega) KB2.out.lt HG1.out))
              have HB3 := Lib.hid (grown_below HP1.out (by omega) HB2.out HB2.out.size HG1.out)
              have hsz3 : w.heap.size + 2 ≤ w4.heap.size := by have := HG1.out.size; simp at this; omega
              clear HP1 HP2 KN2 KB2 HB2 HG1 HA1 hsz2
              go_wp2_with (at_builtin; refine wpList_append_own_at _ rfl (.tmp 62) (.tmp 66) 106 rfl (w.heap.size + 2) 36 i0 (.int .i64 0) 1 8 Try.underlying106 HI.out.1 HI.out.2.1 HI.out.2.2.1 HI.out.2.2.2 rfl (by decide) _ _ _ rfl (own_alloc HP3.out _) ⟨w4.heap.size, 0, none⟩ 1 1 [.int .i64 p] rfl rfl (cell_one_new _ _ _) (by intro u hu; simp at hu; subst hu; rfl) (by unfold maxLen; omega) (by omega) (by simp; omega) ?_)
              intro v2 w5 hown2 hgrow2 _ hat2
              have HO2 := Lib.hid hown2
              have HG2 := Lib.hid hgrow2
              have HA2 := Lib.hid hat2
              clear hown2 hgrow2 hat2
              go_wp2
              go_roundw
              case rel =>
                have ho1 : Owns w4 (w.heap.size + 2) v1 (k + 1 + 1) ((enLoL N B t).take (k + 1 + 1)) := by
                  unfold Owns
                  rw [enLo_take N B t hlt, List.map_append, HMM.out.1]
                  first | exact HO1.out | (rw [List.map_take]; exact HO1.out)
                have ho2 : Owns w5 (w.heap.size + 2) v2 (k + 1 + 1) ((enHiL N B t).take (k + 1 + 1)) := by
                  unfold Owns
                  rw [enHi_take N B t hlt, List.map_append, HMM.out.2]
                  first | exact HO2.out | (rw [List.map_take]; exact HO2.out)
                refine ⟨k + 1, by omega, by go_num, fun j hj => ?_, own_other (own_alloc ho1 _) HG2.out HAp1.out.symm, ho2, (apart_next ho1 HAp1.out.symm HA2.out (by omega)).symm, KN3.out.same (grown_blk HP3.out (by omega) KN3.out.lt HG2.out), KB3.out.same (grown_blk HP3.out (by omega) KB3.out.lt HG2.out), grown_below HP3.out (by omega) HB3.out HB3.out.size HG2.out, by have := HG2.out.size; simp at this; omega⟩
                by_cases c : j = k
                · rw [c]; exact HGood.out
                · exact HZ.out j (by omega)
              case measure => simp [intOf] <;> omega
        · have g2 : (e2 != 0) = true := by simpa using h2
          have HBad : Hid (enBad N B k = true) := Lib.hid (by rw [HD.out.2.2, g1, g2]; rfl)
          clear h1 h2
          go_wp2
          exact bodyPost_ret (v := .tuple #[.int .i64 0, .int .i64 0, .int .i64 6]) (by simp [results, Try.results73, go_sem]) rfl ⟨en_bad HBad.out hlt, HB2.out⟩
      · have g1 : (e1 != 0) = true := by simpa using h1
        have HBad : Hid (enBad N B k = true) := Lib.hid (by rw [HD.out.2.2, g1]; rfl)
        clear h1
        go_wp2
        exact bodyPost_ret (v := .tuple #[.int .i64 0, .int .i64 0, .int .i64 6]) (by simp [results, Try.results73, go_sem]) rfl ⟨en_bad HBad.out hlt, HB2.out⟩
    · obtain rfl : k = 3 := by omega
      obtain ⟨pa, pcap, rfl, hp1⟩ := HO1.out.row
      obtain ⟨qa, qcap, rfl, hp2⟩ := HO2.out.row
      have HR1 : Hid (Row wr pa 4 (enLoL N B t)) := Lib.hid hp1
      have HR2 : Hid (Row wr qa 4 (enHiL N B t)) := Lib.hid hp2
      clear hp1 hp2 HO1 HO2 HAp
      have hb0 : enBad N B 0 = false := HZ.out 0 (by omega)
      have hb1 : enBad N B 1 = false := HZ.out 1 (by omega)
      have hb2 : enBad N B 2 = false := HZ.out 2 (by omega)
      have HE : Hid (enE N B t = if (addE (enLoL N B t) != 0) || (addE (enHiL N B t) != 0) then 6 else 0) := Lib.hid (by unfold enE; rw [hb0, hb1, hb2]; rfl)
      clear hb0 hb1 hb2
      go_wp2_with fail
      refine (radd_any _ _ _ _ _ HR1.out).mono ?_
      rintro e w2 ⟨rfl, rfl⟩
      go_wp2_with fail
      refine (radd_any _ _ _ _ _ HR2.out).mono ?_
      rintro e w2 ⟨rfl, rfl⟩
      obtain ⟨p, hp⟩ : ∃ p, p = addV (enLoL N B t) := ⟨_, rfl⟩
      obtain ⟨q, hq⟩ : ∃ q, q = addV (enHiL N B t) := ⟨_, rfl⟩
      obtain ⟨e1, he1⟩ : ∃ e1, e1 = addE (enLoL N B t) := ⟨_, rfl⟩
      obtain ⟨e2, he2⟩ : ∃ e2, e2 = addE (enHiL N B t) := ⟨_, rfl⟩
      have HV : Hid (enLo N B t = gate (enE N B t) p ∧ enHi N B t = gate (enE N B t) q) := Lib.hid (by rw [hp, hq]; exact ⟨rfl, rfl⟩)
      rw [← he1, ← he2] at HE
      rw [← hp, ← hq, ← he1, ← he2]
      clear hp hq he1 he2
      by_cases h1 : e1 = 0
      · have g1 : (e1 != 0) = false := by rw [h1]; rfl
        by_cases h2 : e2 = 0
        · have g2 : (e2 != 0) = false := by rw [h2]; rfl
          clear h1 h2
          have HE0 : Hid (enE N B t = 0) := Lib.hid (by rw [HE.out, g1, g2]; rfl)
          go_wp2
          exact bodyPost_ret (v := .tuple #[.int .i64 p, .int .i64 q, .int .i64 0]) (by simp [results, Try.results73, go_sem]) rfl ⟨by rw [HV.out.1, HV.out.2, HE0.out]; rfl, HB.out⟩
        · have g2 : (e2 != 0) = true := by simpa using h2
          clear h1 h2
          have HE0 : Hid (enE N B t = 6) := Lib.hid (by rw [HE.out, g1, g2]; rfl)
          go_wp2
          exact bodyPost_ret (v := .tuple #[.int .i64 0, .int .i64 0, .int .i64 6]) (by simp [results, Try.results73, go_sem]) rfl ⟨by rw [(en_no HE0.out).1, (en_no HE0.out).2, HE0.out], HB.out⟩
      · have g1 : (e1 != 0) = true := by simpa using h1
        clear h1
        have HE0 : Hid (enE N B t = 6) := Lib.hid (by rw [HE.out, g1]; rfl)
        go_wp2
        exact bodyPost_ret (v := .tuple #[.int .i64 0, .int .i64 0, .int .i64 6]) (by simp [results, Try.results73, go_sem]) rfl ⟨by rw [(en_no HE0.out).1, (en_no HE0.out).2, HE0.out], HB.out⟩

def okM (M : Nat → Int) : Bool := rightB [M 0, M 1, M 2, M 3, M 4, M 5, M 6, M 7, M 8, M 9, M 10, M 11]
end Go.Proofs.Ytjcibffhlhdjeaa
