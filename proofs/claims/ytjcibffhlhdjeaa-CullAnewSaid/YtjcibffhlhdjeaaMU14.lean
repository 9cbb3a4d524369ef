/-
  4 texts in one file, each with its own heading.
-/
import Derived.Test.YtjcibffhlhdjeaaMU13
import Derived.Test.YtjcibffhlhdjeaaMU10
import Derived.Test.YtjcibffhlhdjeaaMU07
import Derived.Test.YtjcibffhlhdjeaaMU08
/-
  Which views are the same, walked: of the program and of the reference; a list's clone.
-/
namespace Go.Proofs.Ytjcibffhlhdjeaa
open Go.RowKit

def eqPl (P Q : Nat → Int) : Bool := (P 0 == Q 0) && (P 1 == Q 1) && (P 2 == Q 2) && (P 3 == Q 3)
def eqPls : List (Nat → Int) → List (Nat → Int) → Bool
  | [], [] => true
  | P :: X, Q :: Y => eqPl P Q && eqPls X Y
  | _, _ => false
theorem eqPls_len : ∀ {X Y : List (Nat → Int)}, X.length ≠ Y.length → eqPls X Y = false
  | [], [], h => absurd rfl h
  | [], _ :: _, _ => rfl
  | _ :: _, [], _ => rfl
  | P :: X, Q :: Y, h => by
    unfold eqPls
    rw [eqPls_len (X := X) (Y := Y) (by simpa using h), Bool.and_false]
theorem eqPls_at {X Y : List (Nat → Int)} {k : Nat} {P Q : Nat → Int} (hx : X[k]? = some P) (hy : Y[k]? = some Q) : eqPls (X.drop k) (Y.drop k) = (eqPl P Q && eqPls (X.drop (k + 1)) (Y.drop (k + 1))) := by
  rw [drop_at hx, drop_at hy]; rfl
theorem eqPls_end {X Y : List (Nat → Int)} {n : Nat} (hx : X.length = n) (hy : Y.length = n) : eqPls (X.drop n) (Y.drop n) = true := by
  rw [List.drop_of_length_le (by omega), List.drop_of_length_le (by omega)]; rfl
set_option maxHeartbeats 2000000 in
theorem eqPlR (P Q : Nat → Int) (w : World) : (Op.equalIn 10000 40 (.agg #[.int .i64 (P 0), .int .i64 (P 1), .int .i64 (P 2), .int .i64 (P 3)]) (.agg #[.int .i64 (Q 0), .int .i64 (Q 1), .int .i64 (Q 2), .int .i64 (Q 3)])).run Try.prog w = .ok (eqPl P Q) w := by
  have hv := fun w => eqVecR 9997 (P 0) (P 1) (P 2) (Q 0) (Q 1) (Q 2) w
  unfold eqPl
  obtain ⟨p, hp⟩ : ∃ p, p = ((P 0 == Q 0) && (P 1 == Q 1) && (P 2 == Q 2)) := ⟨_, rfl⟩
  rw [← hp] at hv ⊢
  clear hp
  have a3 := Try.isAgg38
  have z3 := Try.sizeOf38
  have u4 := Try.underlying36
  have a4 := Try.isAgg36
  have z4 := Try.sizeOf36
  rw [show (10000 : Nat) = 9997 + 1 + 1 + 1 from rfl, Op.equalIn]
  simp only [Sem.run_bind, run_underlying Try.underlying40, Result.andThen_ok]
  go_simp
  by_cases h : P 3 = Q 3
  · cases p <;> simp [h]
  · cases p <;> simp [h]
set_option maxHeartbeats 4000000 in
theorem equal_any (a : Option Addr) (n cap : Nat) (X : List (Nat → Int)) (a' : Option Addr) (n' cap' : Nat) (Y : List (Nat → Int)) (w : World) (row : PlRow w a n X) (row' : PlRow w a' n' Y) :
    Calls Try.prog 37 #[.slice a n cap, .slice a' n' cap'] w fun e w' => e = .returned (.bool (eqPls X Y)) ∧ Below w.heap.size w w' := by
  have hbig := row.2.1
  have hbig' := row'.2.1
  have HLn := Lib.hid row.1
  have HLn' := Lib.hid row'.1
  have HR := Lib.hid row
  have HR' := Lib.hid row'
  clear row row'
  go_enter Try.func37, Try.ntmps37
  by_cases hn : n = n'
  · subst hn
    have hn0 : (n : Int) = (n : Int) := rfl
    go_wp2
    go_loopw [5, 13] (fun _ i wr => ∃ k : Nat, k ≤ n ∧ i = .int .i64 k ∧ eqPls X Y = eqPls (X.drop k) (Y.drop k) ∧ Below w.heap.size w wr) (fun _ i _ => n - (ivl i).toNat)
    case atStart => exact ⟨0, Nat.zero_le _, rfl, rfl, Below.refl _ _⟩
    case round =>
      obtain ⟨k, hk, rfl, hr, hb⟩ := hrel
      have HE := Lib.hid hr
      have HB := Lib.hid hb
      clear hr hb
      by_cases hlt : k < n
      · have hk0 : (0 : Int) ≤ (k : Int) := by omega
        have hk1 : (k : Int) < (n : Int) := by omega
        obtain ⟨b, off, P, rfl, hbl, hx, hv⟩ := HR.out.at_ hlt
        obtain ⟨b', off', Q, rfl, hbl', hx', hv'⟩ := HR'.out.at_ hlt
        obtain ⟨m0, m1, m2, m3⟩ := pl_cells (range_same hv (HB.out.block b hbl))
        obtain ⟨n0, n1, n2, n3⟩ := pl_cells (range_same hv' (HB.out.block b' hbl'))
        have HS := Lib.hid (eqPls_at hx hx')
        have he := eqPlR P Q
        obtain ⟨t, ht⟩ : ∃ t, t = eqPl P Q := ⟨_, rfl⟩
        rw [← ht] at he HS
        clear hv hx hbl hv' hx' hbl' ht
        cases t
        · go_wp2
          go_quiet (fail)
          go_wp2
          go_ret
          exact ⟨by rw [HE.out, HS.out]; rfl, Go.below_drewN HB.out nq⟩
        · go_wp2
          go_quiet (fail)
          go_wp2
          go_roundw
          case rel => exact ⟨k + 1, by omega, by go_num, by rw [HE.out, HS.out]; rfl, Go.below_drewN HB.out nq⟩
          case measure => simp [ivl] <;> omega
      · obtain rfl : k = n := by omega
        go_wp2
        go_ret
        exact ⟨by rw [HE.out, eqPls_end HLn.out HLn'.out]; rfl, HB.out⟩
  · have hn0 : ¬ (n : Int) = (n' : Int) := by omega
    have HD := Lib.hid (eqPls_len (X := X) (Y := Y) (by rw [HLn.out, HLn'.out]; exact hn))
    go_wp2
    go_ret
    exact ⟨by rw [HD.out]; rfl, Below.refl _ _⟩
theorem equal_b {a : Option Addr} {n cap : Nat} {X : List (Nat → Int)} {a' : Option Addr} {n' cap' : Nat} {Y : List (Nat → Int)} {w : World} {b : Bool} (row : PlRow w a n X) (row' : PlRow w a' n' Y) (h : eqPls X Y = b) :
    Calls Try.prog 37 #[.slice a n cap, .slice a' n' cap'] w fun e w' => e = .returned (.bool b) ∧ Below w.heap.size w w' := (equal_any a n cap X a' n' cap' Y w row row').mono fun _ _ ⟨he, hw⟩ => ⟨by rw [he, h], hw⟩
def sameV (v u : Vw) : Bool := eqPls v.ps u.ps && (eqPl v.eye u.eye && (v.m == u.m))
set_option maxHeartbeats 4000000 in
theorem same14_any (a : Option Addr) (n cap : Nat) (X : List (Nat → Int)) (E : Nat → Int) (m : Int) (a' : Option Addr) (n' cap' : Nat) (Y : List (Nat → Int)) (E' : Nat → Int) (m' : Int) (w : World) (row : PlRow w a n X) (row' : PlRow w a' n' Y) :
    Calls Try.prog 22 #[.agg #[.slice a n cap, .int .i64 (E 0), .int .i64 (E 1), .int .i64 (E 2), .int .i64 (E 3), .int .i64 m], .agg #[.slice a' n' cap', .int .i64 (E' 0), .int .i64 (E' 1), .int .i64 (E' 2), .int .i64 (E' 3), .int .i64 m']] w fun e w' => e = .returned (.bool (sameV ⟨X, E, m⟩ ⟨Y, E', m'⟩)) ∧ Below w.heap.size w w' := by
  have hbel := balloc (alloc_below w (.cells #[.slice a n cap, .int .i64 (E 0), .int .i64 (E 1), .int .i64 (E 2), .int .i64 (E 3), .int .i64 m] 42)) (.cells #[.slice a' n' cap', .int .i64 (E' 0), .int .i64 (E' 1), .int .i64 (E' 2), .int .i64 (E' 3), .int .i64 m'] 42)
  have HR := Lib.hid (row.keep hbel)
  have HR' := Lib.hid (row'.keep hbel)
  have HBel := Lib.hid hbel
  obtain ⟨b1, hb1⟩ : ∃ b1, eqPls X Y = b1 := ⟨_, rfl⟩
  have he := eqPlR E E'
  have HV : Hid (sameV ⟨X, E, m⟩ ⟨Y, E', m'⟩ = (eqPls X Y && (eqPl E E' && (m == m')))) := Lib.hid rfl
  obtain ⟨t, ht⟩ : ∃ t, t = eqPl E E' := ⟨_, rfl⟩
  rw [hb1, ← ht] at HV
  rw [← ht] at he
  have HB1 := Lib.hid hb1
  clear row row' hb1 ht hbel
  go_enter Try.func22, Try.ntmps22
  go_wp2_with fail
  refine (equal_b HR.out HR'.out HB1.out).mono ?_
  rintro e w1 ⟨rfl, q1⟩
  obtain ⟨c0, c1, c2, c3, c4, c5, z⟩ := vblk (((Blk.new w 42 #[.slice a n cap, .int .i64 (E 0), .int .i64 (E 1), .int .i64 (E 2), .int .i64 (E 3), .int .i64 m]).alloc (.cells #[.slice a' n' cap', .int .i64 (E' 0), .int .i64 (E' 1), .int .i64 (E' 2), .int .i64 (E' 3), .int .i64 m'] 42)).keep q1)
  obtain ⟨d0, d1, d2, d3, d4, d5, z'⟩ := vblk (blkAt ((Blk.new (w.alloc (.cells #[.slice a n cap, .int .i64 (E 0), .int .i64 (E 1), .int .i64 (E 2), .int .i64 (E 3), .int .i64 m] 42)) 42 #[.slice a' n' cap', .int .i64 (E' 0), .int .i64 (E' 1), .int .i64 (E' 2), .int .i64 (E' 3), .int .i64 m']).keep q1) (g' := w.heap.size + 1) (by simp))
  have B1 := Lib.hid (bthen HBel.out q1)
  clear q1
  cases b1
  · go_wp2
    go_ret
    exact ⟨by rw [HV.out]; rfl, B1.out⟩
  · cases t
    · go_wp2
      go_ret
      exact ⟨by rw [HV.out]; rfl, B1.out⟩
    · by_cases hm : m = m'
      · subst hm
        go_wp2
        go_ret
        exact ⟨by rw [HV.out]; simp, B1.out⟩
      · go_wp2
        go_ret
        exact ⟨by rw [HV.out]; simp, B1.out⟩
set_option maxHeartbeats 4000000 in
theorem rsame14_any (a : Option Addr) (n cap : Nat) (X : List (Nat → Int)) (E : Nat → Int) (m : Int) (a' : Option Addr) (n' cap' : Nat) (Y : List (Nat → Int)) (E' : Nat → Int) (m' : Int) (w : World) (row : PlRow w a n X) (row' : PlRow w a' n' Y) :
    Calls Try.prog 30 #[.agg #[.slice a n cap, .int .i64 (E 0), .int .i64 (E 1), .int .i64 (E 2), .int .i64 (E 3), .int .i64 m], .agg #[.slice a' n' cap', .int .i64 (E' 0), .int .i64 (E' 1), .int .i64 (E' 2), .int .i64 (E' 3), .int .i64 m']] w fun e w' => e = .returned (.bool (sameV ⟨X, E, m⟩ ⟨Y, E', m'⟩)) ∧ Below w.heap.size w w' := by
  have hbig := row.2.1
  have hbig' := row'.2.1
  have hbel := balloc (alloc_below w (.cells #[.slice a n cap, .int .i64 (E 0), .int .i64 (E 1), .int .i64 (E 2), .int .i64 (E 3), .int .i64 m] 42)) (.cells #[.slice a' n' cap', .int .i64 (E' 0), .int .i64 (E' 1), .int .i64 (E' 2), .int .i64 (E' 3), .int .i64 m'] 42)
  have HLn := Lib.hid row.1
  have HLn' := Lib.hid row'.1
  have HR := Lib.hid (row.keep hbel)
  have HR' := Lib.hid (row'.keep hbel)
  have HBel := Lib.hid hbel
  have he := eqPlR E E'
  have HV : Hid (sameV ⟨X, E, m⟩ ⟨Y, E', m'⟩ = (eqPls X Y && (eqPl E E' && (m == m')))) := Lib.hid rfl
  have K := Lib.hid ((Blk.new w 42 #[.slice a n cap, .int .i64 (E 0), .int .i64 (E 1), .int .i64 (E 2), .int .i64 (E 3), .int .i64 m]).alloc (.cells #[.slice a' n' cap', .int .i64 (E' 0), .int .i64 (E' 1), .int .i64 (E' 2), .int .i64 (E' 3), .int .i64 m'] 42))
  have K' := Lib.hid (blkAt (Blk.new (w.alloc (.cells #[.slice a n cap, .int .i64 (E 0), .int .i64 (E 1), .int .i64 (E 2), .int .i64 (E 3), .int .i64 m] 42)) 42 #[.slice a' n' cap', .int .i64 (E' 0), .int .i64 (E' 1), .int .i64 (E' 2), .int .i64 (E' 3), .int .i64 m']) (g' := w.heap.size + 1) (by simp))
  obtain ⟨t, ht⟩ : ∃ t, t = eqPl E E' := ⟨_, rfl⟩
  rw [← ht] at he HV
  clear row row' ht hbel
  go_enter Try.func30, Try.ntmps30
  by_cases hn : n = n'
  · subst hn
    have hn0 : (n : Int) = (n : Int) := rfl
    cases t
    · go_wp2
      go_ret
      exact ⟨by rw [HV.out]; simp, HBel.out⟩
    · by_cases hm : m = m'
      · subst hm
        go_wp2
        go_loopw [5] (fun i wr => ∃ k : Nat, k ≤ n ∧ i = .int .i64 k ∧ eqPls X Y = eqPls (X.drop k) (Y.drop k) ∧ Below ((w.alloc (.cells #[.slice a n cap, .int .i64 (E 0), .int .i64 (E 1), .int .i64 (E 2), .int .i64 (E 3), .int .i64 m] 42)).alloc (.cells #[.slice a' n cap', .int .i64 (E' 0), .int .i64 (E' 1), .int .i64 (E' 2), .int .i64 (E' 3), .int .i64 m] 42)).heap.size ((w.alloc (.cells #[.slice a n cap, .int .i64 (E 0), .int .i64 (E 1), .int .i64 (E 2), .int .i64 (E 3), .int .i64 m] 42)).alloc (.cells #[.slice a' n cap', .int .i64 (E' 0), .int .i64 (E' 1), .int .i64 (E' 2), .int .i64 (E' 3), .int .i64 m] 42)) wr) (fun i _ => n - (ivl i).toNat)
        case atStart => exact ⟨0, Nat.zero_le _, rfl, rfl, Below.refl _ _⟩
        case round =>
          obtain ⟨k, hk, rfl, hr, hb⟩ := hrel
          have HE := Lib.hid hr
          have HB := Lib.hid hb
          clear hr hb
          obtain ⟨c0, c1, c2, c3, c4, c5, z⟩ := vblk (K.out.keep HB.out)
          obtain ⟨d0, d1, d2, d3, d4, d5, z'⟩ := vblk (K'.out.keep HB.out)
          by_cases hlt : k < n
          · have hk0 : (0 : Int) ≤ (k : Int) := by omega
            have hk1 : (k : Int) < (n : Int) := by omega
            obtain ⟨b, off, P, rfl, hbl, hx, hv⟩ := HR.out.at_ hlt
            obtain ⟨b', off', Q, rfl, hbl', hx', hv'⟩ := HR'.out.at_ hlt
            obtain ⟨m0, m1, m2, m3⟩ := pl_cells (range_same hv (HB.out.block b hbl))
            obtain ⟨n0, n1, n2, n3⟩ := pl_cells (range_same hv' (HB.out.block b' hbl'))
            have HS := Lib.hid (eqPls_at hx hx')
            have he' := eqPlR P Q
            obtain ⟨t, ht⟩ : ∃ t, t = eqPl P Q := ⟨_, rfl⟩
            rw [← ht] at he' HS
            clear hv hx hbl hv' hx' hbl' ht he
            cases t
            · go_wp2
              go_quiet (fail)
              go_wp2
              go_ret
              exact ⟨by rw [HV.out, HE.out, HS.out]; rfl, Go.below_drewN (bthen HBel.out HB.out) nq⟩
            · go_wp2
              go_quiet (fail)
              go_wp2
              go_roundw
              case rel => exact ⟨k + 1, by omega, by go_num, by rw [HE.out, HS.out]; rfl, Go.below_drewN HB.out nq⟩
              case measure => simp [ivl] <;> omega
          · obtain rfl : k = n := by omega
            go_wp2
            go_ret
            exact ⟨by rw [HV.out, HE.out, eqPls_end HLn.out HLn'.out]; simp, bthen HBel.out HB.out⟩
      · go_wp2
        go_ret
        exact ⟨by rw [HV.out]; simp [hm], HBel.out⟩
  · have hn0 : ¬ (n : Int) = (n' : Int) := by omega
    have HD := Lib.hid (eqPls_len (X := X) (Y := Y) (by rw [HLn.out, HLn'.out]; exact hn))
    go_wp2
    go_ret
    exact ⟨by rw [HV.out, HD.out]; rfl, HBel.out⟩
def insR (r : Rc) : List Rc → List Rc
  | [] => [r]
  | a :: L => if r.id < a.id then r :: a :: L else if r.id = a.id then r :: L else a :: insR r L
theorem insR_mem {r x : Rc} : ∀ {L : List Rc}, x ∈ insR r L → x = r ∨ x ∈ L
  | [], h => by
    have := List.mem_singleton.1 h
    exact Or.inl this
  | a :: L, h => by
    unfold insR at h
    by_cases c : r.id < a.id
    · rw [if_pos c] at h
      rcases List.mem_cons.1 h with e | e
      · exact Or.inl e
      · exact Or.inr e
    · rw [if_neg c] at h
      by_cases d : r.id = a.id
      · rw [if_pos d] at h
        rcases List.mem_cons.1 h with e | e
        · exact Or.inl e
        · exact Or.inr (List.mem_cons_of_mem _ e)
      · rw [if_neg d] at h
        rcases List.mem_cons.1 h with e | e
        · exact Or.inr (by rw [e]; exact List.mem_cons_self)
        · rcases insR_mem e with e | e
          · exact Or.inl e
          · exact Or.inr (List.mem_cons_of_mem _ e)
theorem insR_rise {r : Rc} : ∀ {L : List Rc}, Rise L → Rise (insR r L)
  | [], _ => List.pairwise_singleton _ _
  | a :: L, h => by
    obtain ⟨h1, h2⟩ := rise_cons.1 h
    unfold insR
    by_cases c : r.id < a.id
    · rw [if_pos c]
      refine rise_cons.2 ⟨fun x hx => ?_, h⟩
      rcases List.mem_cons.1 hx with e | e
      · rw [e]; exact c
      · have := h1 x e; omega
    · rw [if_neg c]
      by_cases d : r.id = a.id
      · rw [if_pos d]
        exact rise_cons.2 ⟨fun x hx => by rw [d]; exact h1 x hx, h2⟩
      · rw [if_neg d]
        refine rise_cons.2 ⟨fun x hx => ?_, insR_rise h2⟩
        rcases insR_mem hx with e | e
        · rw [e]; omega
        · exact h1 x e
theorem insR_look {r : Rc} : ∀ {L : List Rc}, Rise L → ∀ k, look k (insR r L) = (look k [r]).or (look k L)
  | [], _, k => by
    show look k [r] = (look k [r]).or none
    rw [Option.or_none]
  | a :: L, h, k => by
    obtain ⟨h1, h2⟩ := rise_cons.1 h
    unfold insR
    by_cases c : r.id < a.id
    · rw [if_pos c]
      exact look_app k [r] (a :: L)
    · rw [if_neg c]
      by_cases d : r.id = a.id
      · rw [if_pos d, look_one, look_cons, look_cons]
        by_cases e : r.id = k
        · rw [if_pos e, if_pos e, Option.some_or]
        · rw [if_neg e, if_neg e, if_neg (by rw [← d]; exact e), Option.none_or]
      · rw [if_neg d, look_cons, insR_look h2 k, look_one, look_cons]
        by_cases e : a.id = k
        · rw [if_pos e, if_pos e, if_neg (by rw [← e]; exact d), Option.none_or]
        · rw [if_neg e, if_neg e]
theorem insR_is {r : Rc} {L R : List Rc} (hL : Rise L) (hR : Rise R) (h : ∀ k, look k R = (look k [r]).or (look k L)) : R = insR r L :=
  rise_ext hR (insR_rise hL) (fun k => by rw [h k, insR_look hL k])
theorem insR_len (r : Rc) : ∀ L : List Rc, (insR r L).length ≤ L.length + 1
  | [] => Nat.le_refl _
  | a :: L => by
    unfold insR
    split
    · exact Nat.le_refl _
    · split
      · show L.length + 1 ≤ L.length + 1 + 1
        omega
      · have := insR_len r L
        show (insR r L).length + 1 ≤ L.length + 1 + 1
        omega
theorem insR_last {r : Rc} : ∀ {L : List Rc}, (∀ x ∈ L, x.id < r.id) → insR r L = L ++ [r]
  | [], _ => rfl
  | a :: L, h => by
    have h1 := h a List.mem_cons_self
    unfold insR
    rw [if_neg (by omega), if_neg (by omega), insR_last (fun x hx => h x (List.mem_cons_of_mem _ hx))]
    rfl
def insRs (l L : List Rc) : List Rc := l.foldl (fun L r => insR r L) L
theorem insRs_len : ∀ l L : List Rc, (insRs l L).length ≤ L.length + l.length
  | [], _ => Nat.le_refl _
  | r :: l, L => by
    have h1 := insRs_len l (insR r L)
    have h2 := insR_len r L
    show (insRs l (insR r L)).length ≤ L.length + (l.length + 1)
    omega
theorem insRs_all {R : List Rc} (h : Rise R) : insRs R [] = R := by
  suffices q : ∀ (l L : List Rc), Rise (L ++ l) → insRs l L = L ++ l from q R [] h
  intro l
  induction l with
  | nil => intro L _; rw [List.append_nil]; rfl
  | cons r l ih =>
    intro L hL
    obtain ⟨_, _, a3⟩ := List.pairwise_append.1 hL
    show insRs l (insR r L) = _
    rw [insR_last (fun x hx => a3 x hx r List.mem_cons_self), ih (L ++ [r]) (by rw [List.append_assoc]; exact hL), List.append_assoc]
    rfl
def boxR (r : Rc) : Nat → Int := fun i => match i with | 0 => r.x0 | 1 => r.x1 | 2 => r.x2 | 3 => r.x3 | 4 => r.x4 | _ => r.x5
def seeK (V : Option Vw) (r : Rc) : Int × Bool × Int := match V with | none => (0, false, 0) | some v => seeT v r.ly (boxR r)
def errK (V : Option Vw) : List Rc → Int
  | [] => 0
  | r :: R => if (seeK V r).2.2 = 0 then errK V R else (seeK V r).2.2
def saw1 (V : Option Vw) (r : Rc) : List (Int × Int) := if (seeK V r).2.1 = true then [(r.id, (seeK V r).1)] else []
def sawK (V : Option Vw) (R : List Rc) : List (Int × Int) := R.flatMap (saw1 V)
theorem errK_step {V : Option Vw} {R : List Rc} {k : Nat} {r : Rc} (h : R[k]? = some r) (h0 : errK V (R.take k) = 0) : errK V (R.take (k + 1)) = (seeK V r).2.2 ∧ ((seeK V r).2.2 ≠ 0 → errK V R = (seeK V r).2.2) := by
  induction R generalizing k with
  | nil => cases h
  | cons a R ih =>
    cases k with
    | zero =>
      have e : a = r := by simpa using h
      rw [e]
      refine ⟨?_, fun q => ?_⟩
      · show (if (seeK V r).2.2 = 0 then errK V (R.take 0) else (seeK V r).2.2) = _
        by_cases c : (seeK V r).2.2 = 0
        · rw [if_pos c, c]; rfl
        · rw [if_neg c]
      · show (if (seeK V r).2.2 = 0 then errK V R else (seeK V r).2.2) = _
        rw [if_neg q]
    | succ k =>
      have h' : R[k]? = some r := by simpa using h
      have h0' : (if (seeK V a).2.2 = 0 then errK V (R.take k) else (seeK V a).2.2) = 0 := h0
      by_cases c : (seeK V a).2.2 = 0
      · rw [if_pos c] at h0'
        obtain ⟨i1, i2⟩ := ih h' h0'
        refine ⟨?_, fun q => ?_⟩
        · show (if (seeK V a).2.2 = 0 then errK V (R.take (k + 1)) else (seeK V a).2.2) = _
          rw [if_pos c]; exact i1
        · show (if (seeK V a).2.2 = 0 then errK V R else (seeK V a).2.2) = _
          rw [if_pos c]; exact i2 q
      · rw [if_neg c] at h0'
        exact absurd h0' c
theorem saw_mem {V : Option Vw} {R : List Rc} {p : Int × Int} (h : p ∈ sawK V R) : p.1 ∈ R.map Rc.id := by
  obtain ⟨r, hr, hp⟩ := List.mem_flatMap.1 h
  unfold saw1 at hp
  by_cases c : (seeK V r).2.1 = true
  · rw [if_pos c] at hp
    rw [List.mem_singleton.1 hp]
    exact List.mem_map.2 ⟨r, hr, rfl⟩
  · rw [if_neg c] at hp; cases hp
theorem saw_len (V : Option Vw) (R : List Rc) : (sawK V R).length ≤ R.length := by
  induction R with
  | nil => exact Nat.le_refl _
  | cons r R ih =>
    show (saw1 V r ++ sawK V R).length ≤ R.length + 1
    have : (saw1 V r).length ≤ 1 := by
      unfold saw1
      split
      · exact Nat.le_refl _
      · exact Nat.zero_le _
    rw [List.length_append]
    omega
structure Ku where
  V : Option Vw
  R : List Rc
  D : List Int
  S : List (Int × Int)
  n : Int
def Ku0 : Ku := ⟨none, [], [], [], 0⟩
def sameO (V : Option Vw) (v : Vw) : Bool := match V with | none => false | some u => sameV u v
def lookA (K : Ku) (v : Vw) : Bool × Int := if okVw v = true then (if sameO K.V v = true then (false, 0) else (true, 0)) else (false, 1)
def lookS (K : Ku) (v : Vw) : Ku := if okVw v = true then (if sameO K.V v = true then K else { K with V := some v, D := K.R.map Rc.id }) else K
def closeS (K : Ku) : Ku := { K with V := none, D := if K.V.isSome then K.R.map Rc.id else K.D }
def dput (D : List Int) (x : Int) : List Int := if x ∈ D then D else D ++ [x]
def putK (K : Ku) (r : Rc) : Ku := { K with R := insR r K.R, D := dput K.D r.id }
def putsK (K : Ku) (l : List Rc) : Ku := l.foldl putK K
def dropK (K : Ku) (x : Int) : Ku := { K with R := remL K.R [x], D := K.D.filter (fun y => !decide (y = x)) }
def dropsK (K : Ku) (l : List Int) : Ku := l.foldl dropK K
def runE15 (K : Ku) : Int := errK K.V K.R
def runS15 (K : Ku) : Ku := if errK K.V K.R = 0 then { K with D := [], S := sawK K.V K.R, n := K.n + K.D.length } else { K with D := K.R.map Rc.id, S := [], n := K.n + K.D.length }
def seenK (K : Ku) : List (Int × Int) := K.S.filter (fun p => decide (p.1 ∈ K.R.map Rc.id) && !decide (p.1 ∈ K.D))
theorem look_bad {K : Ku} {v : Vw} (h : okVw v = false) : lookA K v = (false, 1) ∧ lookS K v = K := by
  unfold lookA lookS
  rw [h]
  exact ⟨rfl, rfl⟩
theorem look_same {K : Ku} {v : Vw} (h : okVw v = true) (h2 : sameO K.V v = true) : lookA K v = (false, 0) ∧ lookS K v = K := by
  unfold lookA lookS
  rw [if_pos h, if_pos h, if_pos h2, if_pos h2]
  exact ⟨rfl, rfl⟩
theorem look_new {K : Ku} {v : Vw} (h : okVw v = true) (h2 : sameO K.V v = false) : lookA K v = (true, 0) ∧ lookS K v = { K with V := some v, D := K.R.map Rc.id } := by
  unfold lookA lookS
  rw [if_pos h, if_pos h, h2]
  exact ⟨rfl, rfl⟩
theorem puts_fields (l : List Rc) : ∀ K : Ku, (putsK K l).V = K.V ∧ (putsK K l).R = insRs l K.R ∧ (putsK K l).D = l.foldl (fun D r => dput D r.id) K.D ∧ (putsK K l).S = K.S ∧ (putsK K l).n = K.n := by
  induction l with
  | nil => intro K; exact ⟨rfl, rfl, rfl, rfl, rfl⟩
  | cons r l ih => intro K; exact ih (putK K r)
theorem rem_rem (L : List Rc) (x : Int) (l : List Int) : remL (remL L [x]) l = remL L (x :: l) := by
  unfold remL
  rw [List.filter_filter]
  refine List.filter_congr fun r _ => ?_
  by_cases h : r.id = x
  · simp [h]
  · simp [h]
theorem rem_nil (L : List Rc) : remL L [] = L := List.filter_eq_self.2 (fun r _ => by simp)
theorem drops_fields (l : List Int) : ∀ K : Ku, (dropsK K l).V = K.V ∧ (dropsK K l).R = remL K.R l ∧ (dropsK K l).D = K.D.filter (fun y => !decide (y ∈ l)) ∧ (dropsK K l).S = K.S ∧ (dropsK K l).n = K.n := by
  induction l with
  | nil => intro K; exact ⟨rfl, (rem_nil _).symm, (List.filter_eq_self.2 (fun y _ => by simp)).symm, rfl, rfl⟩
  | cons x l ih =>
    intro K
    obtain ⟨h1, h2, h3, h4, h5⟩ := ih (dropK K x)
    refine ⟨h1, h2.trans (rem_rem _ _ _), h3.trans ?_, h4, h5⟩
    show ((K.D.filter (fun y => !decide (y = x))).filter (fun y => !decide (y ∈ l))) = _
    rw [List.filter_filter]
    refine List.filter_congr fun y _ => ?_
    by_cases h : y = x
    · simp [h]
    · simp [h]
theorem dput_mem {D : List Int} {x y : Int} : y ∈ dput D x ↔ y ∈ D ∨ y = x := by
  unfold dput
  by_cases h : x ∈ D
  · rw [if_pos h]
    exact ⟨Or.inl, fun c => c.elim id (fun e => by rw [e]; exact h)⟩
  · rw [if_neg h, List.mem_append, List.mem_singleton]
theorem dput_nod {D : List Int} {x : Int} (h : D.Nodup) : (dput D x).Nodup := by
  unfold dput
  by_cases c : x ∈ D
  · rw [if_pos c]; exact h
  · rw [if_neg c]
    refine List.nodup_append.2 ⟨h, List.nodup_cons.2 ⟨(fun k => nomatch k), List.nodup_nil⟩, fun a ha b hb e => ?_⟩
    rw [List.mem_singleton.1 hb] at e
    exact c (by rw [← e]; exact ha)
theorem insR_names {r : Rc} {L : List Rc} (h : Rise L) {k : Int} : k ∈ (insR r L).map Rc.id ↔ k = r.id ∨ k ∈ L.map Rc.id := by
  have q : ∀ (A : List Rc), k ∈ A.map Rc.id ↔ (look k A).isSome = true := fun A => by
    constructor
    · intro c
      obtain ⟨x, hx, e⟩ := List.mem_map.1 c
      obtain ⟨y, hy⟩ := look_some hx e
      rw [hy]; rfl
    · intro c
      obtain ⟨y, hy⟩ := Option.isSome_iff_exists.1 c
      obtain ⟨m1, m2⟩ := look_mem hy
      exact List.mem_map.2 ⟨y, m1, m2⟩
  rw [q, q, insR_look h, look_one]
  by_cases e : r.id = k
  · rw [if_pos e]
    exact ⟨fun _ => Or.inl e.symm, fun _ => rfl⟩
  · rw [if_neg e, Option.none_or]
    exact ⟨Or.inr, fun c => c.elim (fun x => absurd x.symm e) id⟩
theorem rem_names {L : List Rc} {x k : Int} : k ∈ (remL L [x]).map Rc.id ↔ k ∈ L.map Rc.id ∧ k ≠ x := by
  unfold remL
  constructor
  · intro h
    obtain ⟨r, hr, e⟩ := List.mem_map.1 h
    obtain ⟨m1, m2⟩ := List.mem_filter.1 hr
    exact ⟨List.mem_map.2 ⟨r, m1, e⟩, fun c => by rw [e, c] at m2; simp at m2⟩
  · rintro ⟨h, hne⟩
    obtain ⟨r, hr, e⟩ := List.mem_map.1 h
    refine List.mem_map.2 ⟨r, List.mem_filter.2 ⟨hr, ?_⟩, e⟩
    rw [e]; simp [hne]
structure KOk (K : Ku) : Prop where
  rise : Rise K.R
  nod : K.D.Nodup
  dr : ∀ x ∈ K.D, x ∈ K.R.map Rc.id
  rg : ∀ r ∈ K.R, Rg r.id
  /-- who isn't dirty has no error, and is seen as it was found -/
  clean : ∀ r ∈ K.R, r.id ∉ K.D → (seeK K.V r).2.2 = 0 ∧ K.S.filter (fun p => decide (p.1 = r.id)) = saw1 K.V r
theorem rise_nod15 {R : List Rc} (h : Rise R) : (R.map Rc.id).Nodup := (List.pairwise_map.2 h).imp (fun {a b} (k : a < b) e => by omega)
theorem KOk.zero : KOk Ku0 := ⟨List.Pairwise.nil, List.nodup_nil, (fun _ h => nomatch h), (fun _ h => nomatch h), (fun _ h => nomatch h)⟩
theorem KOk.alld {K : Ku} (h : KOk K) (V : Option Vw) (S : List (Int × Int)) (n : Int) : KOk ⟨V, K.R, K.R.map Rc.id, S, n⟩ :=
  ⟨h.rise, rise_nod15 h.rise, fun _ hx => hx, h.rg, fun r hr c => absurd (List.mem_map.2 ⟨r, hr, rfl⟩) c⟩
theorem KOk.look {K : Ku} (h : KOk K) (v : Vw) : KOk (lookS K v) := by
  unfold lookS
  split
  · split
    · exact h
    · exact h.alld _ _ _
  · exact h
theorem KOk.close {K : Ku} (h : KOk K) : KOk (closeS K) := by
  unfold closeS
  cases e : K.V with
  | none =>
    refine ⟨h.rise, h.nod, h.dr, h.rg, fun r hr c => ?_⟩
    have := h.clean r hr c
    rw [e] at this
    exact this
  | some v => exact h.alld _ _ _
theorem KOk.put {K : Ku} (h : KOk K) {r : Rc} (hr : Rg r.id) : KOk (putK K r) := by
  refine ⟨insR_rise h.rise, dput_nod h.nod, fun x hx => ?_, fun x hx => ?_, fun x hx c => ?_⟩
  · refine (insR_names h.rise).2 ?_
    rcases dput_mem.1 hx with e | e
    · exact Or.inr (h.dr x e)
    · exact Or.inl e
  · rcases insR_mem hx with e | e
    · rw [e]; exact hr
    · exact h.rg x e
  · have c' : ¬ (x.id ∈ K.D ∨ x.id = r.id) := fun k => c (dput_mem.2 k)
    rcases insR_mem hx with e | e
    · exact absurd (Or.inr (by rw [e])) c'
    · exact h.clean x e (fun k => c' (Or.inl k))
theorem KOk.puts {l : List Rc} : ∀ {K : Ku}, KOk K → (∀ r ∈ l, Rg r.id) → KOk (putsK K l) := by
  induction l with
  | nil => intro K h _; exact h
  | cons r l ih => intro K h hr; exact ih (h.put (hr r List.mem_cons_self)) (fun x hx => hr x (List.mem_cons_of_mem _ hx))
theorem KOk.drop {K : Ku} (h : KOk K) (x : Int) : KOk (dropK K x) := by
  refine ⟨rise_rem h.rise _, h.nod.sublist List.filter_sublist, fun y hy => ?_, fun r hr => h.rg r (List.mem_filter.1 hr).1, fun r hr c => ?_⟩
  · obtain ⟨m1, m2⟩ := List.mem_filter.1 hy
    exact rem_names.2 ⟨h.dr y m1, fun e => by rw [e] at m2; simp at m2⟩
  · obtain ⟨m1, m2⟩ := List.mem_filter.1 hr
    refine h.clean r m1 (fun k => c (List.mem_filter.2 ⟨k, ?_⟩))
    simpa using m2
theorem KOk.drops {l : List Int} : ∀ {K : Ku}, KOk K → KOk (dropsK K l) := by
  induction l with
  | nil => intro K h; exact h
  | cons x l ih => intro K h; exact ih (h.drop x)
theorem errK_zero {V : Option Vw} : ∀ {R : List Rc}, errK V R = 0 → ∀ r ∈ R, (seeK V r).2.2 = 0
  | [], _, r, hr => by cases hr
  | a :: R, h, r, hr => by
    unfold errK at h
    by_cases c : (seeK V a).2.2 = 0
    · rw [if_pos c] at h
      rcases List.mem_cons.1 hr with e | e
      · rw [e]; exact c
      · exact errK_zero h r e
    · rw [if_neg c] at h
      exact absurd h c
theorem saw1_id {V : Option Vw} {r : Rc} {p : Int × Int} (h : p ∈ saw1 V r) : p.1 = r.id := by
  unfold saw1 at h
  split at h
  · rw [List.mem_singleton.1 h]
  · cases h
theorem saw_of {V : Option Vw} : ∀ {R : List Rc}, Rise R → ∀ r ∈ R, (sawK V R).filter (fun p => decide (p.1 = r.id)) = saw1 V r
  | [], _, r, hr => by cases hr
  | a :: R, h, r, hr => by
    obtain ⟨h1, h2⟩ := rise_cons.1 h
    show (saw1 V a ++ sawK V R).filter _ = _
    rw [List.filter_append]
    rcases List.mem_cons.1 hr with e | e
    · have k1 : (saw1 V a).filter (fun p => decide (p.1 = r.id)) = saw1 V a := List.filter_eq_self.2 (fun p hp => by rw [saw1_id hp, e]; simp)
      have k2 : (sawK V R).filter (fun p => decide (p.1 = r.id)) = [] := List.filter_eq_nil_iff.2 (fun p hp => by
        obtain ⟨x, hx, e2⟩ := List.mem_map.1 (saw_mem hp)
        have := h1 x hx
        rw [← e2, e]
        simp
        omega)
      rw [k1, k2, List.append_nil, e]
    · have k1 : (saw1 V a).filter (fun p => decide (p.1 = r.id)) = [] := List.filter_eq_nil_iff.2 (fun p hp => by
        have := h1 r e
        rw [saw1_id hp]
        simp
        omega)
      rw [k1, List.nil_append]
      exact saw_of h2 r e
theorem KOk.run {K : Ku} (h : KOk K) : KOk (runS15 K) := by
  unfold runS15
  by_cases c : errK K.V K.R = 0
  · rw [if_pos c]
    exact ⟨h.rise, List.nodup_nil, (fun _ hx => nomatch hx), h.rg, fun r hr _ => ⟨errK_zero c r hr, saw_of h.rise r hr⟩⟩
  · rw [if_neg c]
    exact h.alld _ _ _
def newK (K : Ku) : Ku := match K.V with | none => putsK Ku0 K.R | some v => lookS (putsK Ku0 K.R) v
theorem dputs_names : ∀ (l : List Rc) (D : List Int), (D ++ l.map Rc.id).Nodup → l.foldl (fun D r => dput D r.id) D = D ++ l.map Rc.id
  | [], D, _ => (List.append_nil _).symm
  | r :: l, D, h => by
    show l.foldl (fun D r => dput D r.id) (dput D r.id) = _
    have hn : r.id ∉ D := fun c => (List.nodup_append.1 h).2.2 r.id c r.id List.mem_cons_self rfl
    rw [show dput D r.id = D ++ [r.id] from if_neg hn, dputs_names l (D ++ [r.id]) (by rw [List.append_assoc]; exact h), List.append_assoc]
    rfl
theorem puts_all {R : List Rc} (h : Rise R) : putsK Ku0 R = ⟨none, R, R.map Rc.id, [], 0⟩ := by
  obtain ⟨h1, h2, h3, h4, h5⟩ := puts_fields R Ku0
  have e2 : (putsK Ku0 R).R = R := h2.trans (insRs_all h)
  have e3 : (putsK Ku0 R).D = R.map Rc.id := h3.trans (dputs_names R [] (rise_nod15 h))
  generalize putsK Ku0 R = K at *
  cases K
  simp only [Ku.mk.injEq]
  exact ⟨h1, e2, e3, h4, h5⟩
def VOk (K : Ku) : Prop := ∀ v, K.V = some v → okVw v = true
theorem new_is {K : Ku} (h : KOk K) (hv : VOk K) : newK K = ⟨K.V, K.R, K.R.map Rc.id, [], 0⟩ := by
  unfold newK
  rw [puts_all h.rise]
  cases e : K.V with
  | none => rfl
  | some v => exact (look_new (K := ⟨none, K.R, K.R.map Rc.id, [], 0⟩) (hv v e) rfl).2
theorem seen_run (K : Ku) : seenK (runS15 K) = if errK K.V K.R = 0 then sawK K.V K.R else [] := by
  unfold runS15
  by_cases c : errK K.V K.R = 0
  · rw [if_pos c, if_pos c]
    refine List.filter_eq_self.2 fun p hp => ?_
    have : p.1 ∈ K.R.map Rc.id := saw_mem hp
    rw [decide_eq_true this]
    rfl
  · rw [if_neg c, if_neg c]
    rfl
theorem anew15 {K : Ku} (h : KOk K) (hv : VOk K) : runE15 (newK K) = runE15 K ∧ (newK K).D.length = K.R.length ∧ seenK (runS15 K) = seenK (runS15 (newK K)) ∧ runE15 (runS15 K) = runE15 K ∧ (runE15 K = 0 → (runS15 K).D.length = 0) := by
  rw [new_is h hv]
  refine ⟨rfl, List.length_map _, ?_, ?_, fun e => ?_⟩
  · rw [seen_run, seen_run]
  · unfold runE15 runS15
    by_cases c : errK K.V K.R = 0
    · rw [if_pos c]
    · rw [if_neg c]
  · unfold runS15
    rw [if_pos (show errK K.V K.R = 0 from e)]
    rfl
theorem VOk.look {K : Ku} (h : VOk K) (v : Vw) : VOk (lookS K v) := by
  unfold lookS
  by_cases c : okVw v = true
  · rw [if_pos c]
    by_cases d : sameO K.V v = true
    · rw [if_pos d]; exact h
    · rw [if_neg d]
      intro u hu
      have e : some v = some u := hu
      injection e with e
      rw [← e]; exact c
  · rw [if_neg c]; exact h
theorem VOk.run {K : Ku} (h : VOk K) : VOk (runS15 K) := by
  unfold runS15
  split
  · exact h
  · exact h
theorem VOk.puts {K : Ku} (h : VOk K) (l : List Rc) : VOk (putsK K l) := fun v hv => h v ((puts_fields l K).1.symm.trans hv)
theorem VOk.drops {K : Ku} (h : VOk K) (l : List Int) : VOk (dropsK K l) := fun v hv => h v ((drops_fields l K).1.symm.trans hv)
theorem VOk.close (K : Ku) : VOk (closeS K) := fun _ hv => nomatch hv
variable {c : Int × PT → List Value} {k : Nat}
def z0 : Nat → Int := fun _ => 0
def n0 : Nat → Bool := fun _ => false
def POk (R : Nat) (G : Nat → Int) (L : Nat → Bool) : Prop := R ≤ 256 ∧ (∀ i, 0 ≤ G i ∧ G i ≤ 65536) ∧ ∀ i, L i = true → i < R ∧ G i ≤ 65535
def l1 : Nat → Bool := tkL z0 n0 2
def l2 : Nat → Bool := tkL z0 l1 2
def l3 : Nat → Bool := tkL z0 l2 2
def g4 : Nat → Int := drG z0 l3 0
def l4 : Nat → Bool := drL z0 l3 0
def l5 : Nat → Bool := tkL g4 l4 2
end Go.Proofs.Ytjcibffhlhdjeaa
