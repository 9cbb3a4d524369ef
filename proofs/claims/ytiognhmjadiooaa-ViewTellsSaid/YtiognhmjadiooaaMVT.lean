/-
  ViewTells answers true for every two views, record and box: whether a view may be, whether two are the same, what is seen, how deep, and the sides of a box are as the document says; a clone is the same, and its own. No conditions.
-/
import Derived.Test.YtiognhmjadiooaaRows
import Derived.Test.YtiognhmjadiooaaMV11
import Derived.Test.YtiognhmjadiooaaMV12
import Derived.Test.YtiognhmjadiooaaMV13
import Derived.Test.YtiognhmjadiooaaMV10
import Derived.WalkKit
import Derived.ProofKit
import Derived.OpenShut
import Derived.ChangeOld
import Derived.Below
import Derived.Deep.Slices
import Derived.Laws.IdiomArrays
namespace Go.Proofs.Ytiognhmjadiooaa.viewTells
open Go.ChangeShapes Go.WideShapes Go.ChangeAt Go.RowKit Go.Deep
set_option linter.unusedVariables false
theorem own : ownKnob Try.prog.godebug = none := by kernel_rfl
theorem laidOut : laidOutB Try.prog = true := by kernel_rfl
theorem rc12 {w : World} {g : Nat} {t : TypeId} {z0 z1 z2 z3 z4 z5 x0 x1 x2 x3 x4 x5 : Value} (h : Blk w g t #[z0, z1, z2, z3, z4, z5, x0, x1, x2, x3, x4, x5]) : w.cell? ⟨g, 0, none⟩ = some z0 ∧ w.cell? ⟨g, 1, none⟩ = some z1 ∧ w.cell? ⟨g, 2, none⟩ = some z2 ∧ w.cell? ⟨g, 3, none⟩ = some z3 ∧ w.cell? ⟨g, 4, none⟩ = some z4 ∧ w.cell? ⟨g, 5, none⟩ = some z5 ∧ w.cell? ⟨g, 6, none⟩ = some x0 ∧ w.cell? ⟨g, 7, none⟩ = some x1 ∧ w.cell? ⟨g, 8, none⟩ = some x2 ∧ w.cell? ⟨g, 9, none⟩ = some x3 ∧ w.cell? ⟨g, 10, none⟩ = some x4 ∧ w.cell? ⟨g, 11, none⟩ = some x5 ∧ g < w.heap.size :=
  ⟨h.cell 0, h.cell 1, h.cell 2, h.cell 3, h.cell 4, h.cell 5, h.cell 6, h.cell 7, h.cell 8, h.cell 9, h.cell 10, h.cell 11, h.lt⟩
def boxR (r : Rc) : Nat → Int
  | 0 => r.x0
  | 1 => r.x1
  | 2 => r.x2
  | 3 => r.x3
  | 4 => r.x4
  | _ => r.x5
def zE : Nat → Int := fun _ => 0
theorem wp_bsR1 {op : Oper} {a : Go.Act} {w : World} {K : Go.Act → World → Prop} {Q : Exit → Go.Act → World → Prop} (t e : TypeId) (x : Operand) (ho : op.op = .buildSlice t 1 #[(0, x)]) (X : List Value) (hx : a.eval x = .agg X.toArray)
    (hrun : ∀ W, (Instr.buildSlice t 1 #[(0, .agg X.toArray)]).run Try.prog W = .ok (.slice (some ⟨W.heap.size, 0, none⟩) 1 1) (W.alloc (.cells X.toArray e)))
    (h : K (a.put op.dst (.slice (some ⟨w.heap.size, 0, none⟩) 1 1)) (w.alloc (.cells X.toArray e))) : op.wp Try.prog a w K Q := by
  unfold Oper.wp execOp
  simp only [ho]
  simp [hx, hrun]
  exact h
theorem own_blk {w : World} {t : TypeId} {base : Nat} {v : Value} {X : List (Nat → Int)} (h : OwnX 4 cPl t w base v X) (hX : 0 < X.length) : ∃ g cap A, v = .slice (some ⟨g, 0, none⟩) X.length cap ∧ X.length ≤ cap ∧ base ≤ g ∧ Blk w g t A ∧ ∃ P, w.cell? ⟨g, 3, none⟩ = some (.int .i64 P) := by
  obtain ⟨g, cap, hv, h1, hb, _, hr⟩ := own_pl h hX
  rcases h.2 with ⟨rfl, h0⟩ | ⟨g', cap', cur, hv', _, hg, _⟩
  · omega
  · rw [hv] at hv'
    injection hv' with e1 e2 e3
    injection e1 with e1
    injection e1 with e1
    subst e1
    cases X with
    | nil => simp at hX
    | cons P X => exact ⟨g, cap, cur, hv, h1, hb, hg, P 3, by have := hr 0 P rfl 3 _ rfl; simpa using this⟩
set_option maxHeartbeats 32000000 in
set_option maxRecDepth 100000 in
theorem walk (a : Option Addr) (n cap : Nat) (X : List (Nat → Int)) (E : Nat → Int) (m : Int) (a' : Option Addr) (n' cap' : Nat) (X' : List (Nat → Int)) (E' : Nat → Int) (m' : Int) (x : Rc) (B : Nat → Int) (w : World) (row : PlRow w a n X) (row' : PlRow w a' n' X') :
    Calls Try.prog 3 #[.agg #[.slice a n cap, .int .i64 (E 0), .int .i64 (E 1), .int .i64 (E 2), .int .i64 (E 3), .int .i64 m, .slice a' n' cap', .int .i64 (E' 0), .int .i64 (E' 1), .int .i64 (E' 2), .int .i64 (E' 3), .int .i64 m'], .agg (cRc x).toArray, .agg #[.int .i64 (B 0), .int .i64 (B 1), .int .i64 (B 2), .int .i64 (B 3), .int .i64 (B 4), .int .i64 (B 5)]] w fun e w' => e = .returned (.bool true) ∧ Below w.heap.size w w' := by
  have hbig := row.2.1
  have hbig' := row'.2.1
  have HLn := Lib.hid row.1
  have HRow := Lib.hid row
  have HRow' := Lib.hid row'
  have HSp : Hid ((Try.prog.info? 35).map (·.size) = some (cRc x).length ∧ (Try.prog.info? 41).map (·.size) = some (cRc x).length) := Lib.hid ⟨rc_size x, rf_size x⟩
  have HBs := Lib.hid (bs_rc1 x)
  have HLo : Hid (∀ W g, Blk W g 35 (cRc x).toArray → Calls Try.prog 9 #[.slice (some ⟨g, 0, none⟩) 1 1] W fun e w' => ∃ b cap, e = .returned (.slice (some ⟨b, 0, none⟩) 1 cap) ∧ w'.rangeAt b 0 (cRc x) ∧ b < w'.heap.size ∧ Below W.heap.size W w') := Lib.hid (fun W g k => by
    refine (gof_any (some ⟨g, 0, none⟩) 1 1 [x] W ⟨rfl, by omega, Or.inr ⟨g, 0, rfl, k.lt, fun i z hz => ?_⟩⟩ (by omega)).mono ?_
    · match i, hz with
      | 0, hz =>
        injection hz with hz
        subst hz
        exact blk_whole k
    · rintro e w' ⟨v, rfl, ho, hb⟩
      obtain ⟨b, cap, rfl, _, _, _, hrg⟩ := row_of ho Nat.zero_lt_one
      exact ⟨b, cap, rfl, hrg 0 x rfl, (ho.lt b rfl).2, hb⟩)
  obtain ⟨t1, t2, t3, hT⟩ : ∃ t1 t2 t3, seeT ⟨X, E, m⟩ x.ly (boxR x) = (t1, t2, t3) := ⟨_, _, _, rfl⟩
  have HSe : Hid (∀ w', Below w.heap.size w w' → Calls Try.prog 7 #[.agg #[.slice a n cap, .int .i64 (E 0), .int .i64 (E 1), .int .i64 (E 2), .int .i64 (E 3), .int .i64 m], .agg (cRc x).toArray] w' fun e w'' => e = .returned (.tuple #[.int .i64 t1, .bool t2, .int .i64 t3]) ∧ Below w'.heap.size w' w'') := Lib.hid (fun w' hb => by
    have q := sees_any a n cap X E m (.int .i64 x.id) (.int .i64 x.ms) (.int .i64 x.pp) (.int .i64 x.mt) (.bool x.cl) x.ly (boxR x) w' (row.keep hb)
    rw [hT] at q
    exact q)
  have HRs : Hid (∀ w', Below w.heap.size w w' → Calls Try.prog 8 #[.agg #[.slice a n cap, .int .i64 (E 0), .int .i64 (E 1), .int .i64 (E 2), .int .i64 (E 3), .int .i64 m], .agg (cRc x).toArray] w' fun e w'' => e = .returned (.tuple #[.int .i64 t1, .bool t2, .int .i64 t3]) ∧ Below w'.heap.size w' w'') := Lib.hid (fun w' hb => by
    have q := rsees_any a n cap X E m (.int .i64 x.id) (.int .i64 x.ms) (.int .i64 x.pp) (.int .i64 x.mt) (.bool x.cl) x.ly (boxR x) w' (row.keep hb)
    rw [hT] at q
    exact q)
  obtain ⟨b1, hb1⟩ : ∃ b1, b1 = okVw ⟨X, E, m⟩ := ⟨_, rfl⟩
  have HRt : Hid (∀ w', Below w.heap.size w w' → Calls Try.prog 10 #[.agg #[.slice a n cap, .int .i64 (E 0), .int .i64 (E 1), .int .i64 (E 2), .int .i64 (E 3), .int .i64 m]] w' fun e w'' => e = .returned (.bool b1) ∧ Below w'.heap.size w' w'') := Lib.hid (fun w' hb => by rw [hb1]; exact viwright_any a n cap X E m w' (row.keep hb))
  have HRr : Hid (∀ w', Below w.heap.size w w' → Calls Try.prog 11 #[.agg #[.slice a n cap, .int .i64 (E 0), .int .i64 (E 1), .int .i64 (E 2), .int .i64 (E 3), .int .i64 m]] w' fun e w'' => e = .returned (.bool b1) ∧ Below w'.heap.size w' w'') := Lib.hid (fun w' hb => by rw [hb1]; exact rviwright_any a n cap X E m w' (row.keep hb))
  obtain ⟨b2, hb2⟩ : ∃ b2, b2 = sameV ⟨X, E, m⟩ ⟨X', E', m'⟩ := ⟨_, rfl⟩
  have HSa : Hid (∀ w', Below w.heap.size w w' → Calls Try.prog 12 #[.agg #[.slice a n cap, .int .i64 (E 0), .int .i64 (E 1), .int .i64 (E 2), .int .i64 (E 3), .int .i64 m], .agg #[.slice a' n' cap', .int .i64 (E' 0), .int .i64 (E' 1), .int .i64 (E' 2), .int .i64 (E' 3), .int .i64 m']] w' fun e w'' => e = .returned (.bool b2) ∧ Below w'.heap.size w' w'') := Lib.hid (fun w' hb => by rw [hb2]; exact same14_any a n cap X E m a' n' cap' X' E' m' w' (row.keep hb) (row'.keep hb))
  have HSr : Hid (∀ w', Below w.heap.size w w' → Calls Try.prog 13 #[.agg #[.slice a n cap, .int .i64 (E 0), .int .i64 (E 1), .int .i64 (E 2), .int .i64 (E 3), .int .i64 m], .agg #[.slice a' n' cap', .int .i64 (E' 0), .int .i64 (E' 1), .int .i64 (E' 2), .int .i64 (E' 3), .int .i64 m']] w' fun e w'' => e = .returned (.bool b2) ∧ Below w'.heap.size w' w'') := Lib.hid (fun w' hb => by rw [hb2]; exact rsame14_any a n cap X E m a' n' cap' X' E' m' w' (row.keep hb) (row'.keep hb))
  have HSs : Hid (∀ w', Below w.heap.size w w' → Calls Try.prog 12 #[.agg #[.slice a n cap, .int .i64 (E 0), .int .i64 (E 1), .int .i64 (E 2), .int .i64 (E 3), .int .i64 m], .agg #[.slice a n cap, .int .i64 (E 0), .int .i64 (E 1), .int .i64 (E 2), .int .i64 (E 3), .int .i64 m]] w' fun e w'' => e = .returned (.bool true) ∧ Below w'.heap.size w' w'') := Lib.hid (fun w' hb => by rw [← sameV_self ⟨X, E, m⟩]; exact same14_any a n cap X E m a n cap X E m w' (row.keep hb) (row.keep hb))
  have k3 := ((Blk.new w 30 #[.slice a n cap, .int .i64 (E 0), .int .i64 (E 1), .int .i64 (E 2), .int .i64 (E 3), .int .i64 m, .slice a' n' cap', .int .i64 (E' 0), .int .i64 (E' 1), .int .i64 (E' 2), .int .i64 (E' 3), .int .i64 m']).alloc (.cells (cRc x).toArray 35)).alloc (.cells #[.int .i64 (B 0), .int .i64 (B 1), .int .i64 (B 2), .int .i64 (B 3), .int .i64 (B 4), .int .i64 (B 5)] 33)
  have k4 := (blkAt (Blk.new (w.alloc (.cells #[.slice a n cap, .int .i64 (E 0), .int .i64 (E 1), .int .i64 (E 2), .int .i64 (E 3), .int .i64 m, .slice a' n' cap', .int .i64 (E' 0), .int .i64 (E' 1), .int .i64 (E' 2), .int .i64 (E' 3), .int .i64 m'] 30)) 35 (cRc x).toArray) (g' := w.heap.size + 1) (by simp)).alloc (.cells #[.int .i64 (B 0), .int .i64 (B 1), .int .i64 (B 2), .int .i64 (B 3), .int .i64 (B 4), .int .i64 (B 5)] 33)
  have k5 := blkAt (Blk.new ((w.alloc (.cells #[.slice a n cap, .int .i64 (E 0), .int .i64 (E 1), .int .i64 (E 2), .int .i64 (E 3), .int .i64 m, .slice a' n' cap', .int .i64 (E' 0), .int .i64 (E' 1), .int .i64 (E' 2), .int .i64 (E' 3), .int .i64 m'] 30)).alloc (.cells (cRc x).toArray 35)) 33 #[.int .i64 (B 0), .int .i64 (B 1), .int .i64 (B 2), .int .i64 (B 3), .int .i64 (B 4), .int .i64 (B 5)]) (g' := w.heap.size + 1 + 1) (by simp)
  have HW0 := Lib.hid (And.intro k3 (And.intro k4 (And.intro k5 (balloc (balloc (alloc_below w (.cells #[.slice a n cap, .int .i64 (E 0), .int .i64 (E 1), .int .i64 (E 2), .int .i64 (E 3), .int .i64 m, .slice a' n' cap', .int .i64 (E' 0), .int .i64 (E' 1), .int .i64 (E' 2), .int .i64 (E' 3), .int .i64 m'] 30)) (.cells (cRc x).toArray 35)) (.cells #[.int .i64 (B 0), .int .i64 (B 1), .int .i64 (B 2), .int .i64 (B 3), .int .i64 (B 4), .int .i64 (B 5)] 33)))))
  obtain ⟨XR, hXR⟩ : ∃ XR, XR = cRc x := ⟨_, rfl⟩
  rw [← hXR] at HSp HBs HLo HSe HRs HW0 ⊢
  have HSz : Hid (((Try.prog.info? 35).map (·.size) = some XR.toArray.size) ∧ ((Try.prog.info? 41).map (·.size) = some XR.toArray.size)) := HSp
  clear hXR hT hb1 hb2 row row' k3 k4 k5
  obtain ⟨g4, hg4⟩ : ∃ g4, g4 = w.heap.size + 1 := ⟨_, rfl⟩
  go_enter Try.func3, Try.ntmps3
  go_upto_region 1 with fail
  refine fin (fun W => Blk W w.heap.size 30 #[.slice a n cap, .int .i64 (E 0), .int .i64 (E 1), .int .i64 (E 2), .int .i64 (E 3), .int .i64 m, .slice a' n' cap', .int .i64 (E' 0), .int .i64 (E' 1), .int .i64 (E' 2), .int .i64 (E' 3), .int .i64 m'] ∧ Blk W (w.heap.size + 1) 35 XR.toArray ∧ Blk W (w.heap.size + 1 + 1) 33 #[.int .i64 (B 0), .int .i64 (B 1), .int .i64 (B 2), .int .i64 (B 3), .int .i64 (B 4), .int .i64 (B 5)] ∧ Below w.heap.size w W) HW0.out ?_
  clear HW0
  rintro W0 ⟨k3, k4, k5, hb⟩
  have KA := Lib.hid (And.intro (k4.alloc (.cells #[.slice a n cap, .int .i64 (E 0), .int .i64 (E 1), .int .i64 (E 2), .int .i64 (E 3), .int .i64 m] 29)) (And.intro (k5.alloc (.cells #[.slice a n cap, .int .i64 (E 0), .int .i64 (E 1), .int .i64 (E 2), .int .i64 (E 3), .int .i64 m] 29)) (balloc hb (.cells #[.slice a n cap, .int .i64 (E 0), .int .i64 (E 1), .int .i64 (E 2), .int .i64 (E 3), .int .i64 m] 29))))
  obtain ⟨d0, d1, d2, d3, d4, d5, d6, d7, d8, d9, d10, d11, y⟩ := rc12 k3
  have HW1 : Hid (Blk ((W0.alloc (.cells #[.slice a n cap, .int .i64 (E 0), .int .i64 (E 1), .int .i64 (E 2), .int .i64 (E 3), .int .i64 m] 29)).alloc (.cells #[.slice a' n' cap', .int .i64 (E' 0), .int .i64 (E' 1), .int .i64 (E' 2), .int .i64 (E' 3), .int .i64 m'] 29)) (w.heap.size + 1) 35 XR.toArray ∧ Blk ((W0.alloc (.cells #[.slice a n cap, .int .i64 (E 0), .int .i64 (E 1), .int .i64 (E 2), .int .i64 (E 3), .int .i64 m] 29)).alloc (.cells #[.slice a' n' cap', .int .i64 (E' 0), .int .i64 (E' 1), .int .i64 (E' 2), .int .i64 (E' 3), .int .i64 m'] 29)) (w.heap.size + 1 + 1) 33 #[.int .i64 (B 0), .int .i64 (B 1), .int .i64 (B 2), .int .i64 (B 3), .int .i64 (B 4), .int .i64 (B 5)] ∧ Blk ((W0.alloc (.cells #[.slice a n cap, .int .i64 (E 0), .int .i64 (E 1), .int .i64 (E 2), .int .i64 (E 3), .int .i64 m] 29)).alloc (.cells #[.slice a' n' cap', .int .i64 (E' 0), .int .i64 (E' 1), .int .i64 (E' 2), .int .i64 (E' 3), .int .i64 m'] 29)) W0.heap.size 29 #[.slice a n cap, .int .i64 (E 0), .int .i64 (E 1), .int .i64 (E 2), .int .i64 (E 3), .int .i64 m] ∧ Blk ((W0.alloc (.cells #[.slice a n cap, .int .i64 (E 0), .int .i64 (E 1), .int .i64 (E 2), .int .i64 (E 3), .int .i64 m] 29)).alloc (.cells #[.slice a' n' cap', .int .i64 (E' 0), .int .i64 (E' 1), .int .i64 (E' 2), .int .i64 (E' 3), .int .i64 m'] 29)) (W0.heap.size + 1) 29 #[.slice a' n' cap', .int .i64 (E' 0), .int .i64 (E' 1), .int .i64 (E' 2), .int .i64 (E' 3), .int .i64 m'] ∧ Below w.heap.size w ((W0.alloc (.cells #[.slice a n cap, .int .i64 (E 0), .int .i64 (E 1), .int .i64 (E 2), .int .i64 (E 3), .int .i64 m] 29)).alloc (.cells #[.slice a' n' cap', .int .i64 (E' 0), .int .i64 (E' 1), .int .i64 (E' 2), .int .i64 (E' 3), .int .i64 m'] 29))) :=
    Lib.hid ⟨KA.out.1.alloc _, KA.out.2.1.alloc _, (Blk.new W0 29 #[.slice a n cap, .int .i64 (E 0), .int .i64 (E 1), .int .i64 (E 2), .int .i64 (E 3), .int .i64 m]).alloc _, blkAt (Blk.new (W0.alloc (.cells #[.slice a n cap, .int .i64 (E 0), .int .i64 (E 1), .int .i64 (E 2), .int .i64 (E 3), .int .i64 m] 29)) 29 #[.slice a' n' cap', .int .i64 (E' 0), .int .i64 (E' 1), .int .i64 (E' 2), .int .i64 (E' 3), .int .i64 m']) (g' := W0.heap.size + 1) (by simp), balloc KA.out.2.2 _⟩
  clear KA k3 k4 k5 hb
  go_upto_region 3 with fail
  refine fin (fun W => Blk W (w.heap.size + 1) 35 XR.toArray ∧ Blk W (w.heap.size + 1 + 1) 33 #[.int .i64 (B 0), .int .i64 (B 1), .int .i64 (B 2), .int .i64 (B 3), .int .i64 (B 4), .int .i64 (B 5)] ∧ Blk W W0.heap.size 29 #[.slice a n cap, .int .i64 (E 0), .int .i64 (E 1), .int .i64 (E 2), .int .i64 (E 3), .int .i64 m] ∧ Blk W (W0.heap.size + 1) 29 #[.slice a' n' cap', .int .i64 (E' 0), .int .i64 (E' 1), .int .i64 (E' 2), .int .i64 (E' 3), .int .i64 m'] ∧ Below w.heap.size w W) HW1.out ?_
  obtain ⟨g7, hg7⟩ : ∃ g7, g7 = W0.heap.size := ⟨_, rfl⟩
  obtain ⟨g8, hg8⟩ : ∃ g8, g8 = W0.heap.size + 1 := ⟨_, rfl⟩
  obtain ⟨g5, hg5⟩ : ∃ g5, g5 = w.heap.size + 1 + 1 := ⟨_, rfl⟩
  rw [← hg5, ← hg4, ← hg8, ← hg7]
  clear HW1 d0 d1 d2 d3 d4 d5 d6 d7 d8 d9 d10 d11 y hg4 hg5 hg7 hg8 W0
  rintro W1 ⟨k4, k5, k7, k8, hb⟩
  have K4 := Lib.hid k4
  have K5 := Lib.hid k5
  have K7 := Lib.hid k7
  have K8 := Lib.hid k8
  have HB := Lib.hid hb
  clear k4 k5 k7 k8 hb
  obtain ⟨c0, c1, c2, c3, c4, c5, y⟩ := vblk K7.out
  obtain ⟨e0, e1, e2, e3, e4, e5, y'⟩ := vblk K8.out
  by_cases h60 : 60 < n
  · have h60' : (60 : Int) < (n : Int) := by omega
    go_wp2_with fail
    refine (alive14_any _).mono ?_
    rintro e wz ⟨rfl, qz⟩
    have HZ := Lib.hid (bthen HB.out qz)
    clear qz
    go_wp2
    go_ret
    exact ⟨rfl, HZ.out⟩
  · have h60' : ¬ (60 : Int) < (n : Int) := by omega
    by_cases h61 : 60 < n'
    · have h61' : (60 : Int) < (n' : Int) := by omega
      go_wp2_with fail
      refine (alive14_any _).mono ?_
      rintro e wz ⟨rfl, qz⟩
      have HZ := Lib.hid (bthen HB.out qz)
      clear qz
      go_wp2
      go_ret
      exact ⟨rfl, HZ.out⟩
    · have h61' : ¬ (60 : Int) < (n' : Int) := by omega
      have hn : n ≤ 1000000 := by omega
      go_wp2_with (refine wpList_load_mid rfl 35 (.tmp 4) rfl g4 0 rfl XR _ (blk_whole K4.out) Try.underlying35 rfl HSp.out.1 ?_)
      refine (HSe.out _ HB.out).mono ?_
      rintro e w2 ⟨rfl, q⟩
      replace K4 := Lib.hid (K4.out.keep q)
      replace K5 := Lib.hid (K5.out.keep q)
      replace K7 := Lib.hid (K7.out.keep q)
      replace K8 := Lib.hid (K8.out.keep q)
      replace HB := Lib.hid (bthen HB.out q)
      clear q c0 c1 c2 c3 c4 c5 y e0 e1 e2 e3 e4 e5 y' h60 h61 h60' h61' HSe
      have HK : Hid (∀ w', Below w2.heap.size w2 w' → w'.cell? ⟨g7, 0, none⟩ = some (.slice a n cap) ∧ w'.cell? ⟨g7, 1, none⟩ = some (.int .i64 (E 0)) ∧ w'.cell? ⟨g7, 2, none⟩ = some (.int .i64 (E 1)) ∧ w'.cell? ⟨g7, 3, none⟩ = some (.int .i64 (E 2)) ∧ w'.cell? ⟨g7, 4, none⟩ = some (.int .i64 (E 3)) ∧ w'.cell? ⟨g7, 5, none⟩ = some (.int .i64 m) ∧ w'.rangeAt g4 0 XR) := Lib.hid (fun w' hb => ⟨(K7.out.keep hb).cell 0, (K7.out.keep hb).cell 1, (K7.out.keep hb).cell 2, (K7.out.keep hb).cell 3, (K7.out.keep hb).cell 4, (K7.out.keep hb).cell 5, blk_whole (K4.out.keep hb)⟩)
      go_wp2
      refine wp_region_held_drew (S := (fun w' => w'.cell? ⟨g7, 0, none⟩ = some (.slice a n cap) ∧ w'.cell? ⟨g7, 1, none⟩ = some (.int .i64 (E 0)) ∧ w'.cell? ⟨g7, 2, none⟩ = some (.int .i64 (E 1)) ∧ w'.cell? ⟨g7, 3, none⟩ = some (.int .i64 (E 2)) ∧ w'.cell? ⟨g7, 4, none⟩ = some (.int .i64 (E 3)) ∧ w'.cell? ⟨g7, 5, none⟩ = some (.int .i64 m) ∧ w'.rangeAt g4 0 XR)) (by kernel_rfl) (HK.out _ (bdrewn (Below.refl _ _))) (fun hHeld => ?_)
      refine tk 0 hHeld ?_
      refine tkl 1 rfl (yieldsIf_load_mid (by rfl) _ _ rfl _ _ rfl _ _ (fun _ h => h.2.2.2.2.2.2) Try.underlying35 rfl HSz.out.1) hHeld ?_
      refine rd 2 (fun K hK => ?_)
      rw [if_pos (by rfl)]
      refine wp_bsR1 44 35 (.tmp 47) rfl XR rfl HBs.out ?_
      refine hK.out _ _ (HK.out _ (bdrew (alloc_below _ _))) (fun hHeld => ?_)
      clear hK K
      have HCal := Lib.hid (HLo.out _ w2.drew.heap.size (Blk.new w2.drew 35 XR.toArray))
      refine rd 3 (fun K hK => ?_)
      go_simp
      go_at_call 9
      refine HCal.out.mono ?_
      rintro e y2 ⟨b, cap1, rfl, hrg, hbl, b1⟩
      have B2 := Lib.hid (bdrew (bthen (alloc_below w2.drew (.cells XR.toArray 35)) b1))
      have HRg := Lib.hid hrg
      go_wp2_with fail
      refine hK.out _ _ (HK.out _ B2.out) (fun hHeld => ?_)
      clear hK K
      clear b1 HCal hrg
      refine tk 4 hHeld ?_
      refine rd 5 (fun K hK => ?_)
      rw [if_pos (by rfl)]
      refine wp_load_mid 41 (.tmp 50) rfl b 0 rfl XR _ HRg.out Try.underlying41 rfl HSz.out.2 ?_
      refine hK.out _ _ (HK.out _ B2.out) (fun hHeld => ?_)
      clear hK K
      refine rd 6 (fun K hK => ?_)
      go_simp
      go_at_call 8
      refine (HRs.out _ (bthen HB.out B2.out)).mono ?_
      rintro e w3 ⟨rfl, q⟩
      go_wp2_with fail
      refine hK.out _ _ (HK.out _ (bthen B2.out q)) (fun hHeld => ?_)
      clear hK K
      refine tk 7 hHeld ?_
      refine tk 8 hHeld ?_
      refine tk 9 hHeld ?_
      refine tk 10 hHeld ?_
      refine tk 11 hHeld ?_
      refine tk 12 hHeld ?_
      refine tk 13 hHeld ?_
      refine wpAnyH_done (by kernel_rfl) ?_ _
      have B3 := Lib.hid (bthen B2.out q)
      replace K5 := Lib.hid (K5.out.keep B3.out)
      replace K7 := Lib.hid (K7.out.keep B3.out)
      replace K8 := Lib.hid (K8.out.keep B3.out)
      replace HB := Lib.hid (bthen HB.out B3.out)
      clear q hHeld B2 B3 HRg hbl HK HRs HLo HBs HSz HSp K4
      have HK : Hid (∀ w', Below w3.heap.size w3 w' → w'.cell? ⟨g7, 0, none⟩ = some (.slice a n cap) ∧ w'.cell? ⟨g7, 1, none⟩ = some (.int .i64 (E 0)) ∧ w'.cell? ⟨g7, 2, none⟩ = some (.int .i64 (E 1)) ∧ w'.cell? ⟨g7, 3, none⟩ = some (.int .i64 (E 2)) ∧ w'.cell? ⟨g7, 4, none⟩ = some (.int .i64 (E 3)) ∧ w'.cell? ⟨g7, 5, none⟩ = some (.int .i64 m) ∧ w'.cell? ⟨g8, 0, none⟩ = some (.slice a' n' cap') ∧ w'.cell? ⟨g8, 1, none⟩ = some (.int .i64 (E' 0)) ∧ w'.cell? ⟨g8, 2, none⟩ = some (.int .i64 (E' 1)) ∧ w'.cell? ⟨g8, 3, none⟩ = some (.int .i64 (E' 2)) ∧ w'.cell? ⟨g8, 4, none⟩ = some (.int .i64 (E' 3)) ∧ w'.cell? ⟨g8, 5, none⟩ = some (.int .i64 m')) := Lib.hid (fun w' hb => ⟨(K7.out.keep hb).cell 0, (K7.out.keep hb).cell 1, (K7.out.keep hb).cell 2, (K7.out.keep hb).cell 3, (K7.out.keep hb).cell 4, (K7.out.keep hb).cell 5, (K8.out.keep hb).cell 0, (K8.out.keep hb).cell 1, (K8.out.keep hb).cell 2, (K8.out.keep hb).cell 3, (K8.out.keep hb).cell 4, (K8.out.keep hb).cell 5⟩)
      go_wp2
      refine wp_region_held_drew (S := (fun w' => w'.cell? ⟨g7, 0, none⟩ = some (.slice a n cap) ∧ w'.cell? ⟨g7, 1, none⟩ = some (.int .i64 (E 0)) ∧ w'.cell? ⟨g7, 2, none⟩ = some (.int .i64 (E 1)) ∧ w'.cell? ⟨g7, 3, none⟩ = some (.int .i64 (E 2)) ∧ w'.cell? ⟨g7, 4, none⟩ = some (.int .i64 (E 3)) ∧ w'.cell? ⟨g7, 5, none⟩ = some (.int .i64 m) ∧ w'.cell? ⟨g8, 0, none⟩ = some (.slice a' n' cap') ∧ w'.cell? ⟨g8, 1, none⟩ = some (.int .i64 (E' 0)) ∧ w'.cell? ⟨g8, 2, none⟩ = some (.int .i64 (E' 1)) ∧ w'.cell? ⟨g8, 3, none⟩ = some (.int .i64 (E' 2)) ∧ w'.cell? ⟨g8, 4, none⟩ = some (.int .i64 (E' 3)) ∧ w'.cell? ⟨g8, 5, none⟩ = some (.int .i64 m'))) (by kernel_rfl) (HK.out _ (bdrewn (Below.refl _ _))) (fun hHeld => ?_)
      refine tk 0 hHeld ?_
      refine tk 1 hHeld ?_
      refine tk 2 hHeld ?_
      refine tk 3 hHeld ?_
      refine tk 4 hHeld ?_
      refine tk 5 hHeld ?_
      refine tk 6 hHeld ?_
      refine tk 7 hHeld ?_
      refine tk 8 hHeld ?_
      refine tk 9 hHeld ?_
      refine tk 10 hHeld ?_
      refine tk 11 hHeld ?_
      refine tk 12 hHeld ?_
      refine tk 13 hHeld ?_
      refine tk 14 hHeld ?_
      refine tk 16 hHeld ?_
      refine rd 15 (fun K hK => ?_)
      go_simp
      go_at_call 10
      refine (HRt.out _ (bthen HB.out (bdrewn (Below.refl _ _)))).mono ?_
      rintro e y1 ⟨rfl, q⟩
      have B1 := Lib.hid (bdrew q)
      go_wp2_with fail
      refine hK.out _ _ (HK.out _ B1.out) (fun hHeld => ?_)
      clear hK K
      clear q
      refine rd 17 (fun K hK => ?_)
      go_simp
      go_at_call 11
      refine (HRr.out _ (bthen HB.out B1.out)).mono ?_
      rintro e y2 ⟨rfl, q⟩
      have B2 := Lib.hid (bthen B1.out q)
      go_wp2_with fail
      refine hK.out _ _ (HK.out _ B2.out) (fun hHeld => ?_)
      clear hK K
      clear q B1
      refine tk 18 hHeld ?_
      refine tk 19 hHeld ?_
      refine tk 20 hHeld ?_
      refine tk 21 hHeld ?_
      refine tk 22 hHeld ?_
      refine tk 24 hHeld ?_
      refine tk 25 hHeld ?_
      refine rd 23 (fun K hK => ?_)
      go_simp
      go_at_call 12
      refine (HSa.out _ (bthen HB.out B2.out)).mono ?_
      rintro e y3 ⟨rfl, q⟩
      have B3 := Lib.hid (bthen B2.out q)
      go_wp2_with fail
      refine hK.out _ _ (HK.out _ B3.out) (fun hHeld => ?_)
      clear hK K
      clear q B2
      refine rd 26 (fun K hK => ?_)
      go_simp
      go_at_call 13
      refine (HSr.out _ (bthen HB.out B3.out)).mono ?_
      rintro e w4 ⟨rfl, q⟩
      have B4 := Lib.hid (bthen B3.out q)
      go_wp2_with fail
      refine hK.out _ _ (HK.out _ B4.out) (fun hHeld => ?_)
      clear hK K
      clear q B3
      refine tk 27 hHeld ?_
      refine tk 28 hHeld ?_
      refine wpAnyH_done (by kernel_rfl) ?_ _
      replace K5 := Lib.hid (K5.out.keep B4.out)
      replace K7 := Lib.hid (K7.out.keep B4.out)
      replace HB := Lib.hid (bthen HB.out B4.out)
      clear hHeld B4 HK HRt HRr HSa HSr K8
      obtain ⟨c0, c1, c2, c3, c4, c5, y⟩ := vblk K5.out
      have HBx : Hid (∀ w', Calls Try.prog 14 #[.agg #[.int .i64 (B 0), .int .i64 (B 1), .int .i64 (B 2), .int .i64 (B 3), .int .i64 (B 4), .int .i64 (B 5)]] w' fun e w'' => ∃ a1 cap1, e = .returned (.tuple #[.slice a1 (boxL B).length cap1, .int .i64 (boxE B)]) ∧ PlRow w'' a1 (boxL B).length (boxL B) ∧ Below w'.heap.size w' w'') := Lib.hid (fun w' => by
        refine (box14_any B w').mono ?_
        rintro e w'' ⟨v, he, ho, hb⟩
        obtain ⟨a1, cap1, rfl, _, _, h3⟩ := ho.row cPl_len
        exact ⟨a1, cap1, he, h3, hb⟩)
      have HBr : Hid (∀ w', Calls Try.prog 15 #[.agg #[.int .i64 (B 0), .int .i64 (B 1), .int .i64 (B 2), .int .i64 (B 3), .int .i64 (B 4), .int .i64 (B 5)]] w' fun e w'' => ∃ a1 cap1, e = .returned (.tuple #[.slice a1 (boxL B).length cap1, .int .i64 (boxE B)]) ∧ PlRow w'' a1 (boxL B).length (boxL B) ∧ Below w'.heap.size w' w'') := Lib.hid (fun w' => by
        refine (rbox14_any B w').mono ?_
        rintro e w'' ⟨v, he, ho, hb⟩
        obtain ⟨a1, cap1, rfl, _, _, h3⟩ := ho.row cPl_len
        exact ⟨a1, cap1, he, h3, hb⟩)
      obtain ⟨L, hL⟩ : ∃ L, L = boxL B := ⟨_, rfl⟩
      obtain ⟨EE, hEE⟩ : ∃ EE, EE = boxE B := ⟨_, rfl⟩
      rw [← hL, ← hEE] at HBx HBr
      obtain ⟨ln, hln⟩ : ∃ ln, ln = L.length := ⟨_, rfl⟩
      rw [← hln] at HBx HBr
      clear hL hEE hln
      go_wp2_with fail
      refine (HBx.out _).mono ?_
      rintro e w5 ⟨a1, cap1, rfl, hr1, q⟩
      have HR1 := Lib.hid hr1
      replace K5 := Lib.hid (K5.out.keep q)
      replace K7 := Lib.hid (K7.out.keep q)
      replace HB := Lib.hid (bthen HB.out q)
      clear hr1 q HBx c0 c1 c2 c3 c4 c5 y
      obtain ⟨c0, c1, c2, c3, c4, c5, y⟩ := vblk K5.out
      go_wp2_with fail
      refine (HBr.out _).mono ?_
      rintro e w6 ⟨a2, cap2, rfl, hr2, q⟩
      have HR2 := Lib.hid hr2
      replace HR1 := Lib.hid (HR1.out.keep q)
      replace K7 := Lib.hid (K7.out.keep q)
      replace HB := Lib.hid (bthen HB.out q)
      clear hr2 q HBr c0 c1 c2 c3 c4 c5 y K5
      have HS3 : Hid (∀ w', PlRow w' a1 ln L → PlRow w' a2 ln L → Calls Try.prog 13 #[.agg #[.slice a1 ln cap1, .int .i64 0, .int .i64 0, .int .i64 0, .int .i64 0, .int .i64 0], .agg #[.slice a2 ln cap2, .int .i64 0, .int .i64 0, .int .i64 0, .int .i64 0, .int .i64 0]] w' fun e w'' => e = .returned (.bool true) ∧ Below w'.heap.size w' w'') := Lib.hid (fun w' r1 r2 => by rw [← sameV_self ⟨L, zE, 0⟩]; exact rsame14_any a1 ln cap1 L zE 0 a2 ln cap2 L zE 0 w' r1 r2)
      go_wp2_with fail
      refine (HS3.out _ HR1.out HR2.out).mono ?_
      rintro e w7 ⟨rfl, q⟩
      replace K7 := Lib.hid (K7.out.keep q)
      replace HB := Lib.hid (bthen HB.out q)
      clear q HS3 HR1 HR2
      obtain ⟨c0, c1, c2, c3, c4, c5, y⟩ := vblk K7.out
      go_wp2_with fail
      refine (vclone_any a n cap X E m _ (HRow.out.keep HB.out) hn).mono ?_
      rintro e w8 ⟨v, rfl, ho, q⟩
      have hlen := HLn.out
      have hcw := HB.out.size
      obtain ⟨ac, cc, hv, _, _, hrc⟩ := ho.row cPl_len
      rw [hlen] at hv hrc
      have HOw : Hid (0 < n → ∃ g cap A, v = .slice (some ⟨g, 0, none⟩) n cap ∧ n ≤ cap ∧ w7.heap.size ≤ g ∧ Blk w8 g 27 A ∧ ∃ P, w8.cell? ⟨g, 3, none⟩ = some (.int .i64 P)) := Lib.hid (fun h => by
        obtain ⟨g, cp, A, h1, h2, h3, h4, h5⟩ := own_blk ho (by omega)
        rw [hlen] at h1 h2
        exact ⟨g, cp, A, h1, h2, by omega, h4, h5⟩)
      have HRc := Lib.hid hrc
      have HG7 := Lib.hid K7.out.lt
      replace K7 := Lib.hid (K7.out.keep q)
      have HB8 := Lib.hid (bthen HB.out q)
      have HSz7 := Lib.hid hcw
      have HSz8 := Lib.hid q.size
      clear q ho hrc c0 c1 c2 c3 c4 c5 y hlen hcw
      have HS4 : Hid (∀ w', PlRow w' ac n X → Below w.heap.size w w' → Calls Try.prog 13 #[.agg #[.slice ac n cc, .int .i64 (E 0), .int .i64 (E 1), .int .i64 (E 2), .int .i64 (E 3), .int .i64 m], .agg #[.slice a n cap, .int .i64 (E 0), .int .i64 (E 1), .int .i64 (E 2), .int .i64 (E 3), .int .i64 m]] w' fun e w'' => e = .returned (.bool true) ∧ Below w'.heap.size w' w'') := Lib.hid (fun w' r1 hb => by rw [← sameV_self ⟨X, E, m⟩]; exact rsame14_any ac n cc X E m a n cap X E m w' r1 (HRow.out.keep hb))
      by_cases h0 : n = 0
      · subst hv
        subst h0
        obtain ⟨c0, c1, c2, c3, c4, c5, y⟩ := vblk K7.out
        clear HOw
        go_wp2_with fail
        refine (HS4.out _ (HRc.out.keep (alloc_below _ _)) (balloc HB8.out _)).mono ?_
        rintro e w9 ⟨rfl, q⟩
        have K20 := Lib.hid ((Blk.new w8 29 #[.slice ac 0 cc, .int .i64 (E 0), .int .i64 (E 1), .int .i64 (E 2), .int .i64 (E 3), .int .i64 m]).keep q)
        replace K7 := Lib.hid ((K7.out.alloc (.cells #[.slice ac 0 cc, .int .i64 (E 0), .int .i64 (E 1), .int .i64 (E 2), .int .i64 (E 3), .int .i64 m] 29)).keep q)
        have HB9 := Lib.hid (bthen (balloc HB8.out (.cells #[.slice ac 0 cc, .int .i64 (E 0), .int .i64 (E 1), .int .i64 (E 2), .int .i64 (E 3), .int .i64 m] 29)) q)
        clear q c0 c1 c2 c3 c4 c5 y HS4
        obtain ⟨e0, e1, e2, e3, e4, e5, y'⟩ := vblk K20.out
        go_wp2_with fail
        refine (alive14_any _).mono ?_
        rintro e wa ⟨rfl, q⟩
        replace K7 := Lib.hid (K7.out.keep q)
        have HBa := Lib.hid (bthen HB9.out q)
        clear q e0 e1 e2 e3 e4 e5 y'
        obtain ⟨c0, c1, c2, c3, c4, c5, y⟩ := vblk K7.out
        go_wp2_with fail
        refine (HSs.out _ HBa.out).mono ?_
        rintro e wb ⟨rfl, q⟩
        have HBb := Lib.hid (bthen HBa.out q)
        clear q
        go_wp2
        go_ret
        exact ⟨rfl, HBb.out⟩
      · have hpos : (0 : Int) < (n : Int) := by omega
        obtain ⟨gc, cp, A, hv2, hcp, hgc, kc, P3, hP3⟩ := HOw.out (by omega)
        rw [hv2] at hv
        injection hv with hv3 _ hv4
        subst hv3
        subst hv4
        subst hv2
        obtain ⟨b, off, P, rfl, hbl, hx, hvP⟩ := HRow.out.at_ (i := 0) (by omega)
        have HVP := Lib.hid (And.intro hbl hvP)
        have HKc := Lib.hid (And.intro kc hP3)
        obtain ⟨c0, c1, c2, c3, c4, c5, y⟩ := vblk K7.out
        clear HOw hbl hvP kc hP3 hx
        go_wp2_with fail
        refine (HS4.out _ (HRc.out.keep (alloc_below _ _)) (balloc HB8.out _)).mono ?_
        rintro e w9 ⟨rfl, q⟩
        have hal := bthen (alloc_below w8 (.cells #[.slice (some ⟨gc, 0, none⟩) n cp, .int .i64 (E 0), .int .i64 (E 1), .int .i64 (E 2), .int .i64 (E 3), .int .i64 m] 29)) q
        have K20 := Lib.hid ((Blk.new w8 29 #[.slice (some ⟨gc, 0, none⟩) n cp, .int .i64 (E 0), .int .i64 (E 1), .int .i64 (E 2), .int .i64 (E 3), .int .i64 m]).keep q)
        replace K7 := Lib.hid (K7.out.keep hal)
        have HB9 := Lib.hid (bthen HB8.out hal)
        replace HKc := Lib.hid (And.intro (HKc.out.1.keep hal) (cell_keep HKc.out.2 hal))
        have hgl := HKc.out.1.lt
        have HS9 := Lib.hid hal.size
        clear q hal c0 c1 c2 c3 c4 c5 y HS4 HRc
        obtain ⟨c0, c1, c2, c3, c4, c5, y⟩ := vblk K7.out
        obtain ⟨e0, e1, e2, e3, e4, e5, y'⟩ := vblk K20.out
        obtain ⟨m0, m1, m2, m3⟩ := pl_cells (range_same HVP.out.2 (HB9.out.block b HVP.out.1))
        rw [Nat.zero_mul, Nat.add_zero] at m0 m1 m2 m3
        have p3 := HKc.out.2
        have f3 := HKc.out.1.frozen 3
        go_upto_region 19 with fail
        refine fin (fun W => Blk W g7 29 #[.slice (some ⟨b, off, none⟩) n cap, .int .i64 (E 0), .int .i64 (E 1), .int .i64 (E 2), .int .i64 (E 3), .int .i64 m] ∧ Blk W w9.heap.size 27 #[.int .i64 (P 0), .int .i64 (P 1), .int .i64 (P 2), .int .i64 (P 3)] ∧ Below w.heap.size w W) ⟨(K7.out.far (p := ⟨gc, 3, none⟩) (by show g7 ≠ gc; have := HG7.out; omega) _).alloc _, blkAt (Blk.new (w9.setCell ⟨gc, 3, none⟩ _) 27 #[.int .i64 (P 0), .int .i64 (P 1), .int .i64 (P 2), .int .i64 (P 3)]) (g' := w9.heap.size) (by simp [World.setCell]), balloc (HB9.out.setCell (by show w.heap.size ≤ gc; have := HSz7.out; omega) _) _⟩ ?_
        rintro W ⟨k7, k22, hb⟩
        have KK7 := Lib.hid k7
        have KK22 := Lib.hid k22
        have HBW := Lib.hid hb
        clear k7 k22 hb c0 c1 c2 c3 c4 c5 y e0 e1 e2 e3 e4 e5 y' m0 m1 m2 m3 p3 f3 K7 K20 HB9 hgl HKc
        obtain ⟨c0, c1, c2, c3, c4, c5, y⟩ := vblk KK7.out
        obtain ⟨e0, e1, e2, e3⟩ := blk4 KK22.out
        obtain ⟨m0, m1, m2, m3⟩ := pl_cells (range_same HVP.out.2 (HBW.out.block b HVP.out.1))
        rw [Nat.zero_mul, Nat.add_zero] at m0 m1 m2 m3
        have he : ∀ w, (Op.equalIn 10000 27 (.agg #[.int .i64 (P 0), .int .i64 (P 1), .int .i64 (P 2), .int .i64 (P 3)]) (.agg #[.int .i64 (P 0), .int .i64 (P 1), .int .i64 (P 2), .int .i64 (P 3)])).run Try.prog w = .ok true w := fun w => by rw [eqPlR, eqPl_self]
        go_quiet (fail)
        have K7q := Lib.hid (KK7.out.drewN nq)
        have HBq := Lib.hid (Go.below_drewN HBW.out nq)
        clear c0 c1 c2 c3 c4 c5 y e0 e1 e2 e3 m0 m1 m2 m3 he KK7 KK22 HBW
        go_wp2_with fail
        refine (alive14_any _).mono ?_
        rintro e wa ⟨rfl, q⟩
        have K7a := Lib.hid (K7q.out.keep q)
        have HBa := Lib.hid (bthen HBq.out q)
        clear q
        obtain ⟨c0, c1, c2, c3, c4, c5, y⟩ := vblk K7a.out
        go_wp2_with fail
        refine (HSs.out _ HBa.out).mono ?_
        rintro e wb ⟨rfl, q⟩
        have HBb := Lib.hid (bthen HBa.out q)
        clear q
        go_wp2
        go_ret
        exact ⟨rfl, HBb.out⟩
set_option maxRecDepth 100000 in
theorem lifted (os : Os) (started : os.Started) (H : Type) (enc : TypeId × Value → H) :
    ReturnsInHanded {} Try.checked os 3 .any (Rows.viewTellsSpec.pre6 enc Try.prog Try.f3 Rows.viewTellsRow.domain false) (Rows.viewTellsSpec.post enc Try.prog Try.f3 false true false false) := by
  refine returnsInHanded_of_change (C := Try.checked) own started (by kernel_rfl) Try.func3
    (ChangeSpec.witness6 (enc := enc) (C := Try.checked) false ⟨#[], #[.agg #[.slice none 0 0, .int .i64 0, .int .i64 0, .int .i64 0, .int .i64 0, .int .i64 0, .slice none 0 0, .int .i64 0, .int .i64 0, .int .i64 0, .int .i64 0, .int .i64 0], .agg (cRc zRc).toArray, .agg #[.int .i64 0, .int .i64 0, .int .i64 0, .int .i64 0, .int .i64 0, .int .i64 0]], []⟩ 8 (by kernel_rfl) (by kernel_rfl) (by kernel_rfl) (by kernel_rfl)) ?_
  intro W base args ds gs before hval0 hW hcnd _
  have hval : ∀ (j : Nat) t v, Try.f3.params[j]? = some t → args[j]? = some v → Value.okWide Try.prog W .any base t v := hval0
  have hW' := hW
  obtain ⟨p, q, hA0, hV, rfl, hfz, hnd⟩ := hW
  have hA : DataW.TrodAll enc Try.prog W 0 (fun _ => true) true Try.f3.params.toList args.toList ds p := hA0
  rw [Try.params3] at hA hval
  obtain ⟨v0, vs0, d0, ds0, p0, q0, hargs, rfl, rfl, h0, r0⟩ := trodAll_cons hA
  obtain ⟨v1, vs1, d1, ds1, p1, q1, rfl, rfl, rfl, h1, r1⟩ := trodAll_cons r0
  obtain ⟨v2, vs2, d2, ds2, p2, q2, rfl, rfl, rfl, h2, r2⟩ := trodAll_cons r1
  obtain ⟨rfl, rfl, rfl⟩ := trodAll_nil r2
  obtain rfl : args = #[v0, v1, v2] := by cases args; simp_all
  obtain ⟨rfl, rfl⟩ := trodVars_none hV
  have k0 := h0
  have lt0 : ∀ x ∈ p0, x.block < W.heap.size := by obtain ⟨m, hm⟩ := k0; exact DataW.trod_lt m _ _ _ hm
  obtain ⟨a0, len0, cap0, X0, E0, m0, a'0, len'0, cap'0, X'0, E'0, m'0, rfl, row0, hc0, hm0, row'0, hc'0, hm'0⟩ := open_views2 (hval 0 30 v0 rfl rfl) h0
  have k1 := h1
  have lt1 : ∀ x ∈ p1, x.block < W.heap.size := by obtain ⟨m, hm⟩ := k1; exact DataW.trod_lt m _ _ _ hm
  obtain ⟨x1, rfl⟩ := open_rec (hval 1 35 v1 rfl rfl) h1
  have k2 := h2
  have lt2 : ∀ x ∈ p2, x.block < W.heap.size := by obtain ⟨m, hm⟩ := k2; exact DataW.trod_lt m _ _ _ hm
  obtain ⟨B2, rfl⟩ := open_box (hval 2 33 v2 rfl rfl) h2
  clear hA0 hval0
  refine (walk a0 len0 cap0 X0 E0 m0 a'0 len'0 cap'0 X'0 E'0 m'0 x1 B2 W row0 row'0).mono fun e W' ⟨he, bel⟩ => ?_
  subst he
  exact ⟨_, rfl, _, _, _, [], _, [], hW', trodAll_mk1 (shut_bool Try.underlying4 _), (trodAll_cons_mk (Below.trod laidOut (by kernel_rfl) (of_decide_eq_true (by kernel_rfl)) k0 bel lt0) (trodAll_cons_mk (Below.trod laidOut (by kernel_rfl) (of_decide_eq_true (by kernel_rfl)) k1 bel lt1) (trodAll_cons_mk (Below.trod laidOut (by kernel_rfl) (of_decide_eq_true (by kernel_rfl)) k2 bel lt2) trodAll_mk0))), rfl, bel.frame _, fun h => by cases h⟩

theorem over : Rows.viewTellsRow.holds Try.pinned (OpenSpec.ofChange Rows.viewTellsSpec) :=
  OpenClaim.holds_of_wide 3 Try.f3 rfl rfl rfl rfl rfl rfl rfl ⟨rfl, rfl, rfl, rfl, rfl⟩ rfl rfl rfl rfl rfl (by kernel_rfl) Try.func3 (by kernel_rfl)
    (of_decide_eq_true (by kernel_rfl)) (by unfold Func.isWrapper; first | (rw [if_pos (by decide +kernel)]; kernel_rfl) | (rw [if_neg (by decide +kernel)]; exact ⟨rfl, rfl⟩))
    (fun os started H enc _ => lifted os started H enc)

end Go.Proofs.Ytiognhmjadiooaa.viewTells
namespace Go.Proofs.Ytiognhmjadiooaa
theorem viewTells_holds : Rows.ViewTellsSaid := viewTells.over
#print axioms viewTells_holds
end Go.Proofs.Ytiognhmjadiooaa
